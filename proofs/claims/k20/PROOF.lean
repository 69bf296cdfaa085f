import PyProof.Rows.All
import Wide.All
import OpenK.AllK
import Wide.FinOn
import HandS.ForMost
import HandS.IsInst
import HandS.Wide
import HandS.SortRule
import HandS.SortInts
import HandS.TupSets
import HandS.Zip
import HandS.Conv
import HandS.Flow
import HandS.Lambda
import HandS.Keys
import HandS.More
import PyProof.TypeEq
import HandS.MakeKwOnly
import HandS.DictTup
import HandS.DictComp
import HandS.RaiseMore
import HandS.Style
import KE.SortData
import PySem.Challenge.RW_oldestbills_k20_charge
set_option Elab.async false
set_option linter.all false
set_option maxRecDepth 100000
set_option maxHeartbeats 4000000
namespace VL
open PySem PySem.Spec
open PyProof.Rows L2

abbrev D := PyData
/-- not a table of code objects (a lambda's making writes into one) -/
def NT (o : HO) : Prop := ∀ ps, o ≠ .tbl ps
/-- a def's places: its lists and dicts that are written; the tables that its lambdas are noted in -/
structure Pl where
  ps : List Nat
  tb : List (Addr × Str)
instance : Membership Nat Pl := ⟨fun P i => i ∈ P.ps⟩
instance {i : Nat} {P : Pl} : Decidable (i ∈ P) := inferInstanceAs (Decidable (i ∈ P.ps))

/-! ### data in the heap; B: the addresses that may not be reached -/
mutual
inductive Rp (H : Hp) (B : Addr → Prop) : D → V → Prop
  | non : Rp H B .none .non
  | bl (b : Bool) : Rp H B (.bool b) (.bl b)
  | int (i : Int) : Rp H B (.int i) (.int i)
  | str (x : Str) : Rp H B (.str x) (.str x)
  | lst {a : Addr} {xs : List V} {ds : List D} : ¬ B a → Rd H a (.lst xs) → RpL H B ds xs → Rp H B (.list ds) (.ref a)
  | tup {a : Addr} {xs : List V} {ds : List D} : ¬ B a → H a = some (.tup xs) → RpL H B ds xs → Rp H B (.tuple ds) (.ref a)
inductive RpL (H : Hp) (B : Addr → Prop) : List D → List V → Prop
  | nil : RpL H B [] []
  | cons {d : D} {v : V} {ds : List D} {vs : List V} : Rp H B d v → RpL H B ds vs → RpL H B (d :: ds) (v :: vs)
end

section
variable {H H' : Hp} {B B' : Addr → Prop}
theorem Rd.ne {a : Addr} {u : HO} (r : Rd H a u) : H a ≠ none := by
  rcases r with r | ⟨o, r⟩ <;> (rw [r]; exact fun z => nomatch z)
theorem Rd.keep {a : Addr} {u : HO} (r : Rd H a u) (k : ∀ o, H a = some o → NT o → H' a = some o) (nt : NT u := by intro _ z; exact nomatch z) : Rd H' a u := by
  rcases r with r | ⟨o, r⟩
  · exact .inl (k _ r nt)
  · exact .inr ⟨o, k _ r fun _ z => nomatch z⟩
mutual
theorem Rp.move (k : ∀ b o, H b = some o → NT o → ¬ B b → H' b = some o ∧ ¬ B' b) : ∀ {d : D} {v : V}, Rp H B d v → Rp H' B' d v
  | _, _, .non => .non
  | _, _, .bl b => .bl b
  | _, _, .int i => .int i
  | _, _, .str x => .str x
  | _, _, .lst (a := a) (xs := xs) nb r rs => by
    have h : ¬ B' a := by
      rcases r with r | ⟨o, r⟩
      · exact (k _ _ r (fun _ z => nomatch z) nb).2
      · exact (k _ _ r (fun _ z => nomatch z) nb).2
    exact .lst h (Rd.keep r fun o e t => (k _ _ e t nb).1) (RpL.move k rs)
  | _, _, .tup nb e rs => .tup (k _ _ e (fun _ z => nomatch z) nb).2 (k _ _ e (fun _ z => nomatch z) nb).1 (RpL.move k rs)
theorem RpL.move (k : ∀ b o, H b = some o → NT o → ¬ B b → H' b = some o ∧ ¬ B' b) : ∀ {ds : List D} {vs : List V}, RpL H B ds vs → RpL H' B' ds vs
  | _, _, .nil => .nil
  | _, _, .cons r rs => .cons (Rp.move k r) (RpL.move k rs)
end
theorem RpL.length : ∀ {ds : List D} {vs : List V}, RpL H B ds vs → ds.length = vs.length
  | _, _, .nil => rfl
  | _, _, .cons _ rs => by simp [RpL.length rs]
theorem RpL.get : ∀ {ds : List D} {vs : List V} {i : Nat} {d : D}, RpL H B ds vs → ds[i]? = some d → ∃ v, vs[i]? = some v ∧ Rp H B d v
  | _, _, _, _, .nil, e => by simp at e
  | _, _, 0, _, .cons r _, e => by simp at e; subst e; exact ⟨_, rfl, r⟩
  | _, _, i + 1, _, .cons _ rs, e => by
    obtain ⟨v, h1, h2⟩ := RpL.get (i := i) rs (by simpa using e)
    exact ⟨v, by simpa using h1, h2⟩
theorem RpL.getV : ∀ {ds : List D} {vs : List V} {i : Nat} {v : V}, RpL H B ds vs → vs[i]? = some v → ∃ d, ds[i]? = some d ∧ Rp H B d v
  | _, _, _, _, .nil, e => by simp at e
  | _, _, 0, _, .cons r _, e => by simp at e; subst e; exact ⟨_, rfl, r⟩
  | _, _, i + 1, _, .cons _ rs, e => by
    obtain ⟨v, h1, h2⟩ := RpL.getV (i := i) rs (by simpa using e)
    exact ⟨v, by simpa using h1, h2⟩
theorem RpL.append : ∀ {ds es : List D} {vs ws : List V}, RpL H B ds vs → RpL H B es ws → RpL H B (ds ++ es) (vs ++ ws)
  | _, _, _, _, .nil, q => q
  | _, _, _, _, .cons r rs, q => .cons r (RpL.append rs q)
theorem RpL.take (n : Nat) : ∀ {ds : List D} {vs : List V}, RpL H B ds vs → RpL H B (ds.take n) (vs.take n) := by
  induction n with
  | zero => intro ds vs _; exact .nil
  | succ n ih =>
    intro ds vs r
    cases r with
    | nil => exact .nil
    | cons r rs => exact .cons r (ih rs)
theorem RpL.drop (n : Nat) : ∀ {ds : List D} {vs : List V}, RpL H B ds vs → RpL H B (ds.drop n) (vs.drop n) := by
  induction n with
  | zero => intro ds vs r; exact r
  | succ n ih =>
    intro ds vs r
    cases r with
    | nil => exact .nil
    | cons r rs => exact ih rs
theorem RpL.set {d : D} {v : V} (q : Rp H B d v) : ∀ {ds : List D} {vs : List V} (i : Nat), RpL H B ds vs → RpL H B (ds.set i d) (vs.set i v)
  | _, _, _, .nil => .nil
  | _, _, 0, .cons _ rs => .cons q rs
  | _, _, i + 1, .cons r rs => .cons r (RpL.set q i rs)
theorem RpL.reverse : ∀ {ds : List D} {vs : List V}, RpL H B ds vs → RpL H B ds.reverse vs.reverse
  | _, _, .nil => .nil
  | _, _, .cons r rs => by
    rw [List.reverse_cons, List.reverse_cons]
    exact RpL.append (RpL.reverse rs) (.cons r .nil)
theorem RpL.ints : ∀ {ns : List Int} {vs : List V}, RpL H B (ns.map .int) vs → vs = ns.map V.int
  | [], _, .nil => rfl
  | n :: ns, _, .cons r rs => by
    cases r
    rw [List.map_cons, RpL.ints rs]
theorem RpL.bools : ∀ {ns : List Bool} {vs : List V}, RpL H B (ns.map .bool) vs → vs = ns.map V.bl
  | [], _, .nil => rfl
  | n :: ns, _, .cons r rs => by
    cases r
    rw [List.map_cons, RpL.bools rs]
theorem RpL.ofInts : ∀ (ns : List Int), RpL H B (ns.map .int) (ns.map V.int)
  | [] => .nil
  | n :: ns => .cons (.int n) (RpL.ofInts ns)
mutual
theorem Rp.dp {K : PySem.W.Frag} : ∀ {d : D} {v : V}, Rp H B d v → Dp K H v d
  | _, _, .non => .non
  | _, _, .bl b => .bl b
  | _, _, .int i => .int i
  | _, _, .str x => .str x
  | _, _, .lst _ r rs => .lst (.inl r) (RpL.dp rs)
  | _, _, .tup _ e rs => .tup (.inl (.inl e)) (RpL.dp rs)
theorem RpL.dp {K : PySem.W.Frag} : ∀ {ds : List D} {vs : List V}, RpL H B ds vs → DpAll K H vs ds
  | _, _, .nil => .nil
  | _, _, .cons r rs => .cons (Rp.dp r) (RpL.dp rs)
end
end

/-! ### .. with lists that may be written -/
mutual
inductive Rx (H : Hp) (B : Addr → Prop) : D → V → Prop
  | non : Rx H B .none .non
  | bl (b : Bool) : Rx H B (.bool b) (.bl b)
  | int (i : Int) : Rx H B (.int i) (.int i)
  | str (x : Str) : Rx H B (.str x) (.str x)
  | lst {a : Addr} {xs : List V} {ds : List D} : ¬ B a → H a = some (.lst xs) → RxL H B ds xs → Rx H B (.list ds) (.ref a)
  | tup {a : Addr} {xs : List V} {ds : List D} : ¬ B a → H a = some (.tup xs) → RxL H B ds xs → Rx H B (.tuple ds) (.ref a)
inductive RxL (H : Hp) (B : Addr → Prop) : List D → List V → Prop
  | nil : RxL H B [] []
  | cons {d : D} {v : V} {ds : List D} {vs : List V} : Rx H B d v → RxL H B ds vs → RxL H B (d :: ds) (v :: vs)
end
section
variable {H H' : Hp} {B B' : Addr → Prop}
mutual
theorem Rx.move (k : ∀ b o, H b = some o → NT o → ¬ B b → H' b = some o ∧ ¬ B' b) : ∀ {d : D} {v : V}, Rx H B d v → Rx H' B' d v
  | _, _, .non => .non
  | _, _, .bl b => .bl b
  | _, _, .int i => .int i
  | _, _, .str x => .str x
  | _, _, .lst nb e rs => .lst (k _ _ e (fun _ z => nomatch z) nb).2 (k _ _ e (fun _ z => nomatch z) nb).1 (RxL.move k rs)
  | _, _, .tup nb e rs => .tup (k _ _ e (fun _ z => nomatch z) nb).2 (k _ _ e (fun _ z => nomatch z) nb).1 (RxL.move k rs)
theorem RxL.move (k : ∀ b o, H b = some o → NT o → ¬ B b → H' b = some o ∧ ¬ B' b) : ∀ {ds : List D} {vs : List V}, RxL H B ds vs → RxL H' B' ds vs
  | _, _, .nil => .nil
  | _, _, .cons r rs => .cons (Rx.move k r) (RxL.move k rs)
end
mutual
theorem Rx.rp : ∀ {d : D} {v : V}, Rx H B d v → Rp H B d v
  | _, _, .non => .non
  | _, _, .bl b => .bl b
  | _, _, .int i => .int i
  | _, _, .str x => .str x
  | _, _, .lst nb e rs => .lst nb (.inl e) (RxL.rp rs)
  | _, _, .tup nb e rs => .tup nb e (RxL.rp rs)
theorem RxL.rp : ∀ {ds : List D} {vs : List V}, RxL H B ds vs → RpL H B ds vs
  | _, _, .nil => .nil
  | _, _, .cons r rs => .cons (Rx.rp r) (RxL.rp rs)
end
theorem RxL.length : ∀ {ds : List D} {vs : List V}, RxL H B ds vs → ds.length = vs.length
  | _, _, .nil => rfl
  | _, _, .cons _ rs => by simp [RxL.length rs]
theorem RxL.append : ∀ {ds es : List D} {vs ws : List V}, RxL H B ds vs → RxL H B es ws → RxL H B (ds ++ es) (vs ++ ws)
  | _, _, _, _, .nil, q => q
  | _, _, _, _, .cons r rs, q => .cons r (RxL.append rs q)
theorem RxL.get : ∀ {ds : List D} {vs : List V} {i : Nat} {d : D}, RxL H B ds vs → ds[i]? = some d → ∃ v, vs[i]? = some v ∧ Rx H B d v
  | _, _, _, _, .nil, e => by simp at e
  | _, _, 0, _, .cons r _, e => by simp at e; subst e; exact ⟨_, rfl, r⟩
  | _, _, i + 1, _, .cons _ rs, e => by
    obtain ⟨v, h1, h2⟩ := RxL.get (i := i) rs (by simpa using e)
    exact ⟨v, by simpa using h1, h2⟩
def flatD : D → Bool
  | .none => true
  | .bool _ => true
  | .int _ => true
  | .str _ => true
  | _ => false
theorem Rp.flat {d : D} {v : V} (r : Rp H B d v) (f : flatD d = true) : Rp H' B' d v := by
  cases r with
  | non => exact .non
  | bl b => exact .bl b
  | int i => exact .int i
  | str x => exact .str x
  | lst _ _ _ => cases f
  | tup _ _ _ => cases f
theorem Rp.flatX {d : D} {v : V} (r : Rp H B d v) (f : flatD d = true) : Rx H' B' d v := by
  cases r with
  | non => exact .non
  | bl b => exact .bl b
  | int i => exact .int i
  | str x => exact .str x
  | lst _ _ _ => cases f
  | tup _ _ _ => cases f
theorem RpL.flatX : ∀ {ds : List D} {vs : List V}, RpL H B ds vs → ds.all flatD = true → RxL H' B' ds vs
  | _, _, .nil, _ => .nil
  | _, _, .cons r rs, f => by
    rw [List.all_cons, Bool.and_eq_true] at f
    exact .cons (r.flatX f.1) (RpL.flatX rs f.2)
end

/-! ### slots -/
abbrev DKV := List (List Key × D)
inductive Sl where
  | un | va (d : D) | ow (ds : List D) | vn (d : D) | dc (t : Bool) (kvs : DKV)
abbrev En := List Sl
/-- a key, by data -/
def kD : Key → D
  | .inl n => .int n
  | .inr x => .str x
/-- the dict at a: its keys, and its values by data; keys that are tuples of keys; keys that are keys -/
def DcAt (H : Hp) (B : Addr → Prop) (a : Addr) : Bool → DKV → Prop
  | false, kvs => ∃ ks : List (Key × V), H a = some (.dK ks) ∧ Paired (fun (p : List Key × D) (q : Key × V) => p.1 = [q.1] ∧ Rp H B p.2 q.2) kvs ks
  | true, kvs => ∃ ks : List (List Key × V), H a = some (.dT ks) ∧ Paired (fun (p : List Key × D) (q : List Key × V) => p.1 = q.1 ∧ Rp H B p.2 q.2) kvs ks
def isOwn : Sl → Bool
  | .ow _ => true
  | .dc _ _ => true
  | _ => false
/-- the object at a holds what the slot tells -/
def OwnAt (H : Hp) (B : Addr → Prop) (a : Addr) : Sl → Prop
  | .ow ds => ∃ xs, H a = some (.lst xs) ∧ RpL H B ds xs
  | .dc t kvs => DcAt H B a t kvs
  | _ => False
theorem DcAt.move {H H' : Hp} {B B' : Addr → Prop} {a : Addr} {t : Bool} {kvs : DKV} (d : DcAt H B a t kvs) (ha : ∀ o, H a = some o → NT o → H' a = some o) (k : ∀ b o, H b = some o → NT o → ¬ B b → H' b = some o ∧ ¬ B' b) : DcAt H' B' a t kvs := by
  cases t with
  | false =>
    obtain ⟨ks, h1, h2⟩ := d
    exact ⟨ks, ha _ h1 (fun _ z => nomatch z), Paired.mapP h2 fun p q z => ⟨z.1, z.2.move k⟩⟩
  | true =>
    obtain ⟨ks, h1, h2⟩ := d
    exact ⟨ks, ha _ h1 (fun _ z => nomatch z), Paired.mapP h2 fun p q z => ⟨z.1, z.2.move k⟩⟩
theorem DcAt.ne {H : Hp} {B : Addr → Prop} {a : Addr} {t : Bool} {kvs : DKV} (d : DcAt H B a t kvs) : H a ≠ none ∧ ∀ xs, H a ≠ some (.lst xs) := by
  cases t with
  | false =>
    obtain ⟨ks, h1, h2⟩ := d
    exact ⟨(by rw [h1]; exact fun z => nomatch z), (fun xs => by rw [h1]; exact fun z => nomatch z)⟩
  | true =>
    obtain ⟨ks, h1, h2⟩ := d
    exact ⟨(by rw [h1]; exact fun z => nomatch z), (fun xs => by rw [h1]; exact fun z => nomatch z)⟩
theorem OwnAt.move {H H' : Hp} {B B' : Addr → Prop} {a : Addr} {s : Sl} (d : OwnAt H B a s) (ha : ∀ o, H a = some o → NT o → H' a = some o) (k : ∀ b o, H b = some o → NT o → ¬ B b → H' b = some o ∧ ¬ B' b) : OwnAt H' B' a s := by
  cases s with
  | ow ds =>
    obtain ⟨xs, h1, h2⟩ := d
    exact ⟨xs, ha _ h1 (fun _ z => nomatch z), h2.move k⟩
  | dc t kvs => exact DcAt.move d ha k
  | un => exact d
  | va _ => exact d
  | vn _ => exact d
theorem OwnAt.ne {H : Hp} {B : Addr → Prop} {a : Addr} {s : Sl} (d : OwnAt H B a s) : H a ≠ none := by
  cases s with
  | ow ds =>
    obtain ⟨xs, h1, h2⟩ := d
    rw [h1]
    exact fun z => nomatch z
  | dc t kvs => exact (DcAt.ne d).1
  | un => exact d.elim
  | va _ => exact d.elim
  | vn _ => exact d.elim
/-- an own object is no tuple and no table -/
theorem OwnAt.obj {H : Hp} {B : Addr → Prop} {a : Addr} {s : Sl} (d : OwnAt H B a s) : ∃ o, H a = some o ∧ NT o ∧ (∀ φ, o ≠ .ext φ) := by
  cases s with
  | ow ds =>
    obtain ⟨xs, h1, h2⟩ := d
    exact ⟨_, h1, (fun _ z => nomatch z), fun _ z => nomatch z⟩
  | dc t kvs =>
    cases t with
    | false =>
      obtain ⟨ks, h1, h2⟩ := d
      exact ⟨_, h1, (fun _ z => nomatch z), fun _ z => nomatch z⟩
    | true =>
      obtain ⟨ks, h1, h2⟩ := d
      exact ⟨_, h1, (fun _ z => nomatch z), fun _ z => nomatch z⟩
  | un => exact d.elim
  | va _ => exact d.elim
  | vn _ => exact d.elim

/-- what is blocked for the whole run, and what stood at its start -/
structure Bk where
  bl : Addr → Prop
  od : Addr → Prop
def blk (Bf : Bk) (ow : Nat → Option Addr) (b : Addr) : Prop := Bf.bl b ∨ ∃ i, ow i = some b

/-- .. and what stood at the start: a value that was made since -/
def blkN (Bf : Bk) (ow : Nat → Option Addr) (b : Addr) : Prop := blk Bf ow b ∨ Bf.od b
def insB (Bf : Bk) (p : Addr) : Bk := ⟨fun b => Bf.bl b ∨ b = p, Bf.od⟩

structure Ok (P : Pl) (Bf : Bk) (ow : Nat → Option Addr) (en : En) (σ : L2.St) (H : Hp) : Prop where
  hlen : σ.length = en.length
  hva : ∀ (i : Nat) (d : D), en[i]? = some (Sl.va d) → ∃ v, σ[i]? = some (some v) ∧ Rp H (blk Bf ow) d v
  hvn : ∀ (i : Nat) (d : D), en[i]? = some (Sl.vn d) → ∃ v, σ[i]? = some (some v) ∧ Rx H (blkN Bf ow) d v
  hob : ∀ (i : Nat) (s : Sl), en[i]? = some s → isOwn s = true → ∃ a, ow i = some a ∧ σ[i]? = some (some (.ref a)) ∧ OwnAt H (blk Bf ow) a s
  hdom : ∀ (i : Nat) (a : Addr), ow i = some a → ∃ s, en[i]? = some s ∧ isOwn s = true
  hinj : ∀ i j a, ow i = some a → ow j = some a → i = j
  hbf : ∀ b, Bf.bl b → H b ≠ none
  hod : ∀ b, Bf.od b → H b ≠ none
  hloc : ∀ i a, ow i = some a → i ∉ P → ¬ Bf.bl a ∧ ¬ Bf.od a
  htab : LamX.Tabs P.tb H
theorem Ok.hown {P : Pl} {Bf : Bk} {ow : Nat → Option Addr} {en : En} {σ : L2.St} {H : Hp} (k : Ok P Bf ow en σ H) (i : Nat) (ds : List D) (e : en[i]? = some (Sl.ow ds)) : ∃ a xs, ow i = some a ∧ σ[i]? = some (some (.ref a)) ∧ H a = some (.lst xs) ∧ RpL H (blk Bf ow) ds xs := by
  obtain ⟨a, h1, h2, xs, h3, h4⟩ := k.hob i _ e rfl
  exact ⟨a, xs, h1, h2, h3, h4⟩
theorem Ok.hdc {P : Pl} {Bf : Bk} {ow : Nat → Option Addr} {en : En} {σ : L2.St} {H : Hp} (k : Ok P Bf ow en σ H) (i : Nat) (t : Bool) (kvs : DKV) (e : en[i]? = some (Sl.dc t kvs)) : ∃ a, ow i = some a ∧ σ[i]? = some (some (.ref a)) ∧ DcAt H (blk Bf ow) a t kvs := k.hob i _ e rfl
/-- where a slot's own object lies -/
theorem Ok.hat {P : Pl} {Bf : Bk} {ow : Nat → Option Addr} {en : En} {σ : L2.St} {H : Hp} (k : Ok P Bf ow en σ H) {i : Nat} {a : Addr} (e : ow i = some a) : ∃ s, en[i]? = some s ∧ isOwn s = true ∧ σ[i]? = some (some (.ref a)) ∧ OwnAt H (blk Bf ow) a s := by
  obtain ⟨s, h1, h2⟩ := k.hdom i a e
  obtain ⟨a', h3, h4, h5⟩ := k.hob i s h1 h2
  rw [e] at h3
  cases h3
  exact ⟨s, h1, h2, h4, h5⟩

structure Rel (P : Pl) (H : Hp) (ow : Nat → Option Addr) (H' : Hp) (ow' : Nat → Option Addr) : Prop where
  hkeep : ∀ b o, H b = some o → NT o → (∀ i, ow i ≠ some b) → H' b = some o ∧ (∀ i, ow' i ≠ some b)
  hsome : ∀ b, H b ≠ none → H' b ≠ none
  hpin : ∀ i, i ∈ P → ow' i = ow i
  hsub : ∀ (i : Nat) (a : Addr), ow' i = some a → ow i = some a

section
variable {P : Pl} {Bf : Bk} {ow ow' ow1 : Nat → Option Addr} {en en' : En} {σ σ' : L2.St} {H H' H1 : Hp}
theorem Rel.refl : Rel P H ow H ow := ⟨fun _ _ e t n => ⟨e, n⟩, fun _ e => e, fun _ _ => rfl, fun _ _ e => e⟩
theorem Rel.trans (a : Rel P H ow H1 ow1) (b : Rel P H1 ow1 H' ow') : Rel P H ow H' ow' :=
  ⟨fun x o e t n => b.hkeep x o (a.hkeep x o e t n).1 t (a.hkeep x o e t n).2, fun x e => b.hsome x (a.hsome x e), fun i hi => (b.hpin i hi).trans (a.hpin i hi), fun i x e => a.hsub i x (b.hsub i x e)⟩
theorem Rel.mv (a : Rel P H ow H' ow') : ∀ b o, H b = some o → NT o → ¬ blk Bf ow b → H' b = some o ∧ ¬ blk Bf ow' b := fun b o e t n => by
  have h := a.hkeep b o e t fun i z => n (.inr ⟨i, z⟩)
  exact ⟨h.1, fun z => z.elim (fun z => n (.inl z)) fun ⟨i, z⟩ => h.2 i z⟩
theorem Rel.mvN (a : Rel P H ow H' ow') : ∀ b o, H b = some o → NT o → ¬ blkN Bf ow b → H' b = some o ∧ ¬ blkN Bf ow' b := fun b o e t n => by
  have h := a.mv (Bf := Bf) b o e t fun z => n (.inl z)
  exact ⟨h.1, fun z => z.elim h.2 fun z => n (.inr z)⟩
theorem Rel.rp (a : Rel P H ow H' ow') {d : D} {v : V} (r : Rp H (blk Bf ow) d v) : Rp H' (blk Bf ow') d v := r.move a.mv
theorem Rel.rpl (a : Rel P H ow H' ow') {d : List D} {v : List V} (r : RpL H (blk Bf ow) d v) : RpL H' (blk Bf ow') d v := r.move a.mv
/-- new things alone -/
def Ext (H H' : Hp) : Prop := ∀ b o, H b = some o → H' b = some o
theorem Ext.refl : Ext H H := fun _ _ e => e
theorem Ext.trans (a : Ext H H1) (b : Ext H1 H') : Ext H H' := fun x o e => b x o (a x o e)
theorem Ext.upd {p : Addr} {o : HO} (h : H p = none) : Ext H (upd H p o) := fun b x e => by
  rw [upd_ne (ne_of_none e h)]
  exact e
theorem Ext.some (a : Ext H H') : ∀ b, H b ≠ none → H' b ≠ none := fun b h => by
  cases e : H b with
  | none => exact absurd e h
  | some o => rw [a b o e]; exact fun z => nomatch z
theorem Ext.rel (a : Ext H H') : Rel P H ow H' ow := ⟨fun b o e t n => ⟨a b o e, n⟩, a.some, fun _ _ => rfl, fun _ _ e => e⟩
/-- .. but for the tables, which stay good -/
structure ExtT (T : List (Addr × Str)) (H H' : Hp) : Prop where
  keep : ∀ b o, H b = some o → NT o → H' b = some o
  dom : ∀ b, H b ≠ none → H' b ≠ none
  tab : LamX.Tabs T H → LamX.Tabs T H'
theorem Ext.t {T : List (Addr × Str)} (a : Ext H H') : ExtT T H H' := ⟨fun b o e _ => a b o e, a.some, fun t => t.ext a⟩
theorem ExtT.refl {T : List (Addr × Str)} : ExtT T H H := Ext.refl.t
theorem ExtT.trans {T : List (Addr × Str)} (a : ExtT T H H1) (b : ExtT T H1 H') : ExtT T H H' := ⟨fun x o e t => b.keep x o (a.keep x o e t) t, fun x e => b.dom x (a.dom x e), fun t => b.tab (a.tab t)⟩
theorem ExtT.rel {T : List (Addr × Str)} (a : ExtT T H H') : Rel P H ow H' ow := ⟨fun b o e t n => ⟨a.keep b o e t, n⟩, a.dom, fun _ _ => rfl, fun _ _ e => e⟩
theorem ExtT.rp {T : List (Addr × Str)} {B : Addr → Prop} (a : ExtT T H H') {d : D} {v : V} (r : Rp H B d v) : Rp H' B d v := r.move fun b o e t n => ⟨a.keep b o e t, n⟩
theorem ExtT.rpl {T : List (Addr × Str)} {B : Addr → Prop} (a : ExtT T H H') {d : List D} {v : List V} (r : RpL H B d v) : RpL H' B d v := r.move fun b o e t n => ⟨a.keep b o e t, n⟩
theorem Ext.rp {B : Addr → Prop} (a : Ext H H') {d : D} {v : V} (r : Rp H B d v) : Rp H' B d v := r.move fun b o e t n => ⟨a b o e, n⟩
theorem Ext.rpl {B : Addr → Prop} (a : Ext H H') {d : List D} {v : List V} (r : RpL H B d v) : RpL H' B d v := r.move fun b o e t n => ⟨a b o e, n⟩
theorem Ok.extT (k : Ok P Bf ow en σ H) (a : ExtT P.tb H H') : Ok P Bf ow en σ H' where
  hlen := k.hlen
  hva := fun i d e => let ⟨v, h1, h2⟩ := k.hva i d e; ⟨v, h1, a.rp h2⟩
  hvn := fun i d e => let ⟨v, h1, h2⟩ := k.hvn i d e; ⟨v, h1, h2.move fun b o e t n => ⟨a.keep b o e t, n⟩⟩
  hob := fun i s e f => let ⟨x, h1, h2, h3⟩ := k.hob i s e f; ⟨x, h1, h2, h3.move (fun o e t => a.keep _ o e t) fun b o e t n => ⟨a.keep b o e t, n⟩⟩
  hdom := k.hdom
  hinj := k.hinj
  hbf := fun b h => a.dom b (k.hbf b h)
  hod := fun b h => a.dom b (k.hod b h)
  hloc := k.hloc
  htab := a.tab k.htab
theorem Ok.ext (k : Ok P Bf ow en σ H) (a : Ext H H') : Ok P Bf ow en σ H' := k.extT a.t
theorem Ok.nb (k : Ok P Bf ow en σ H) {p : Addr} (h : H p = none) : ¬ blk Bf ow p := fun z => by
  rcases z with z | ⟨i, z⟩
  · exact k.hbf p z h
  · obtain ⟨_, _, _, _, h3⟩ := k.hat z
    exact h3.ne h
end

/-! ### expressions -/
abbrev FE := En → Option (D × En)
def tv (P : Pl) (f : FE) : TE := fun σ H Q => ∃ Bf ow en, Ok P Bf ow en σ H ∧ ∃ d en', f en = some (d, en') ∧
  ∀ v ow' H', Ok P Bf ow' en' σ H' → Rel P H ow H' ow' → Rp H' (blk Bf ow') d v → Q v H'
def VE (X : Cx) (P : Pl) (e : Expr) (f : FE) : Prop := PE X e (tv P f)

theorem PE.weak {X : Cx} {e : Expr} {t t' : TE} (h : PE X e t) (w : ∀ σ H Q, t' σ H Q → t σ H Q) : PE X e t' :=
  ⟨fun pins s σ H Q I q => h.run pins s σ H Q I (w σ H Q q)⟩

section
variable {X : Cx} {P : Pl} {a b e : Expr} {fa fb : FE} {pos : Pos}

/-- a slot is let go: its list, if it was one's own, is a value from here on -/
def dropOw (ow : Nat → Option Addr) (i : Nat) : Nat → Option Addr := fun j => if j = i then none else ow j
theorem dropOw_sub {ow : Nat → Option Addr} {i : Nat} : ∀ (j : Nat) (a : Addr), dropOw ow i j = some a → ow j = some a := fun j a z => by
  unfold dropOw at z
  split at z
  · cases z
  · exact z
theorem dropOw_blk {Bf : Bk} {ow : Nat → Option Addr} {i : Nat} {b : Addr} (z : blk Bf (dropOw ow i) b) : blk Bf ow b := by
  rcases z with z | ⟨j, z⟩
  · exact .inl z
  · exact .inr ⟨j, dropOw_sub j b z⟩
theorem dropOw_rel {P : Pl} {ow : Nat → Option Addr} {H : Hp} {i : Nat} (hi : i ∉ P) : Rel P H ow H (dropOw ow i) :=
  ⟨fun b o e t n => ⟨e, fun j z => n j (dropOw_sub j b z)⟩, fun _ e => e, fun j hj => by
    unfold dropOw
    rw [if_neg fun z => hi (by rw [← z]; exact hj)], dropOw_sub⟩
theorem Ok.set {P : Pl} {Bf : Bk} {ow : Nat → Option Addr} {en : En} {σ : L2.St} {H : Hp} (k : Ok P Bf ow en σ H) {i : Nat} {d : D} {v : V} (hi : i ∉ P) (p : Rp H (blk Bf (dropOw ow i)) d v) : Ok P Bf (dropOw ow i) (en.set i (.va d)) (σ.set i (some v)) H := by
  have mv : ∀ b o, H b = some o → NT o → ¬ blk Bf ow b → H b = some o ∧ ¬ blk Bf (dropOw ow i) b := fun b o e t n => ⟨e, fun z => n (dropOw_blk z)⟩
  have mvN : ∀ b o, H b = some o → NT o → ¬ blkN Bf ow b → H b = some o ∧ ¬ blkN Bf (dropOw ow i) b := fun b o e t n => ⟨e, fun z => n (z.elim (fun z => .inl (dropOw_blk z)) .inr)⟩
  refine ⟨by simp [k.hlen], fun j d' e => ?_, fun j d' e => ?_, fun j ds e f => ?_, fun j a e => ?_, fun j l a e1 e2 => k.hinj j l a (dropOw_sub _ _ e1) (dropOw_sub _ _ e2), k.hbf, k.hod, fun j a e hj => k.hloc j a (dropOw_sub _ _ e) hj, k.htab⟩
  · by_cases hj : j = i
    · subst hj
      by_cases hl : j < en.length
      · rw [List.getElem?_set_self hl] at e
        cases e
        exact ⟨v, by rw [List.getElem?_set_self (by rw [k.hlen]; exact hl)], p⟩
      · rw [List.getElem?_eq_none (by simpa using hl)] at e
        cases e
    · rw [List.getElem?_set_ne (Ne.symm hj)] at e ⊢
      obtain ⟨w, h1, h2⟩ := k.hva j d' e
      exact ⟨w, h1, h2.move mv⟩
  · by_cases hj : j = i
    · subst hj
      by_cases hl : j < en.length
      · rw [List.getElem?_set_self hl] at e
        cases e
      · rw [List.getElem?_eq_none (by simpa using hl)] at e
        cases e
    · rw [List.getElem?_set_ne (Ne.symm hj)] at e ⊢
      obtain ⟨w, h1, h2⟩ := k.hvn j d' e
      exact ⟨w, h1, h2.move mvN⟩
  · by_cases hj : j = i
    · subst hj
      by_cases hl : j < en.length
      · rw [List.getElem?_set_self hl] at e
        cases e
        cases f
      · rw [List.getElem?_eq_none (by simpa using hl)] at e
        cases e
    · rw [List.getElem?_set_ne (Ne.symm hj)] at e ⊢
      obtain ⟨a, h1, h2, h3⟩ := k.hob j ds e f
      exact ⟨a, by unfold dropOw; rw [if_neg hj]; exact h1, h2, h3.move (fun o e _ => e) mv⟩
  · have e' := dropOw_sub _ _ e
    unfold dropOw at e
    split at e
    · cases e
    · rename_i hj
      rw [List.getElem?_set_ne (Ne.symm hj)]
      exact k.hdom j a e'
theorem Ok.setN {P : Pl} {Bf : Bk} {ow : Nat → Option Addr} {en : En} {σ : L2.St} {H : Hp} (k : Ok P Bf ow en σ H) {i : Nat} {d : D} {v : V} (hi : i ∉ P) (p : Rx H (blkN Bf (dropOw ow i)) d v) : Ok P Bf (dropOw ow i) (en.set i (.vn d)) (σ.set i (some v)) H := by
  have mv : ∀ b o, H b = some o → NT o → ¬ blk Bf ow b → H b = some o ∧ ¬ blk Bf (dropOw ow i) b := fun b o e t n => ⟨e, fun z => n (dropOw_blk z)⟩
  have mvN : ∀ b o, H b = some o → NT o → ¬ blkN Bf ow b → H b = some o ∧ ¬ blkN Bf (dropOw ow i) b := fun b o e t n => ⟨e, fun z => n (z.elim (fun z => .inl (dropOw_blk z)) .inr)⟩
  refine ⟨by simp [k.hlen], fun j d' e => ?_, fun j d' e => ?_, fun j ds e f => ?_, fun j a e => ?_, fun j l a e1 e2 => k.hinj j l a (dropOw_sub _ _ e1) (dropOw_sub _ _ e2), k.hbf, k.hod, fun j a e hj => k.hloc j a (dropOw_sub _ _ e) hj, k.htab⟩
  · by_cases hj : j = i
    · subst hj
      by_cases hl : j < en.length
      · rw [List.getElem?_set_self hl] at e
        cases e
      · rw [List.getElem?_eq_none (by simpa using hl)] at e
        cases e
    · rw [List.getElem?_set_ne (Ne.symm hj)] at e ⊢
      obtain ⟨w, h1, h2⟩ := k.hva j d' e
      exact ⟨w, h1, h2.move mv⟩
  · by_cases hj : j = i
    · subst hj
      by_cases hl : j < en.length
      · rw [List.getElem?_set_self hl] at e
        cases e
        exact ⟨v, by rw [List.getElem?_set_self (by rw [k.hlen]; exact hl)], p⟩
      · rw [List.getElem?_eq_none (by simpa using hl)] at e
        cases e
    · rw [List.getElem?_set_ne (Ne.symm hj)] at e ⊢
      obtain ⟨w, h1, h2⟩ := k.hvn j d' e
      exact ⟨w, h1, h2.move mvN⟩
  · by_cases hj : j = i
    · subst hj
      by_cases hl : j < en.length
      · rw [List.getElem?_set_self hl] at e
        cases e
        cases f
      · rw [List.getElem?_eq_none (by simpa using hl)] at e
        cases e
    · rw [List.getElem?_set_ne (Ne.symm hj)] at e ⊢
      obtain ⟨a, h1, h2, h3⟩ := k.hob j ds e f
      exact ⟨a, by unfold dropOw; rw [if_neg hj]; exact h1, h2, h3.move (fun o e _ => e) mv⟩
  · have e' := dropOw_sub _ _ e
    unfold dropOw at e
    split at e
    · cases e
    · rename_i hj
      rw [List.getElem?_set_ne (Ne.symm hj)]
      exact k.hdom j a e'
/-- a list of one's own becomes a value -/
theorem Ok.freeze {P : Pl} {Bf : Bk} {ow : Nat → Option Addr} {en : En} {σ : L2.St} {H : Hp} (k : Ok P Bf ow en σ H) {i : Nat} {ds : List D} (hi : i ∉ P) (e : en[i]? = some (.ow ds)) :
    ∃ v, σ[i]? = some (some v) ∧ Ok P Bf (dropOw ow i) (en.set i (.va (.list ds))) σ H ∧ Rp H (blk Bf (dropOw ow i)) (.list ds) v := by
  obtain ⟨a, xs, h1, h2, h3, h4⟩ := k.hown i ds e
  have p : Rp H (blk Bf (dropOw ow i)) (.list ds) (.ref a) := by
    refine .lst (fun z => ?_) (.inl h3) (h4.move fun b o e t n => ⟨e, fun z => n (dropOw_blk z)⟩)
    rcases z with z | ⟨j, z⟩
    · exact (k.hloc i a h1 hi).1 z
    · have := k.hinj j i a (dropOw_sub _ _ z) h1
      subst this
      unfold dropOw at z
      rw [if_pos rfl] at z
      cases z
  refine ⟨_, h2, ?_, p⟩
  have k2 := k.set hi p
  have es : σ.set i (some (.ref a)) = σ := by
    apply List.ext_getElem?
    intro j
    by_cases hj : j = i
    · subst hj
      rw [List.getElem?_set_self (List.getElem?_eq_some_iff.mp h2).1, h2]
    · rw [List.getElem?_set_ne (Ne.symm hj)]
  rw [es] at k2
  exact k2
def eVar (P : List Nat) (i : Nat) : FE := fun en => match en[i]? with
  | some (.va d) => some (d, en)
  | some (.ow ds) => if i ∈ P then none else some (.list ds, en.set i (.va (.list ds)))
  | some (.vn d) => some (d, en)
  | _ => none
theorem ve_var {i : Nat} {x : Str} (hN : X.N[i]? = some x) (hv : Vis X.env.scope x := by first | exact .inl rfl | exact .inr (.inl rfl) | exact .inr (.inr rfl)) (hd : (x == ("__debug__" : Str)) = false := by decide) (hcd : (x == ("__classdict__" : Str)) = false := by decide) : VE X P (.Name x pos) (eVar P.ps i) := by
  refine PE.weak (pe_var hN hv hd hcd) fun σ H Q h => ?_
  obtain ⟨Bf, ow, en, k, d, en', hf, q⟩ := h
  unfold eVar at hf
  split at hf
  · rename_i d' he
    cases hf
    obtain ⟨v, h1, h2⟩ := k.hva i d he
    exact ⟨v, h1, q v ow H k .refl h2⟩
  · rename_i ds he
    split at hf
    · cases hf
    · rename_i hi
      cases hf
      obtain ⟨v, h1, k2, p⟩ := k.freeze hi he
      exact ⟨v, h1, q v _ H k2 (dropOw_rel hi) p⟩
  · rename_i d' he
    cases hf
    obtain ⟨v, h1, h2⟩ := k.hvn i d he
    exact ⟨v, h1, q v ow H k .refl (h2.rp.move fun b o e t n => ⟨e, fun z => n (.inl z)⟩)⟩
  · cases hf
def eC (d : D) : FE := fun en => some (d, en)
theorem ve_of {v : V} {d : D} (h : PE X e (tC v)) (r : ∀ H B, Rp H B d v) : VE X P e (eC d) := by
  refine PE.weak h fun σ H Q h => ?_
  obtain ⟨Bf, ow, en, k, d, en', hf, q⟩ := h
  cases hf
  exact q v ow H k .refl (r _ _)
theorem ve_int {i j pos} : VE X P (.Constant (.int i) j pos) (eC (.int i)) := ve_of pe_int fun _ _ => .int i
theorem ve_bl {i j pos} : VE X P (.Constant (.bool i) j pos) (eC (.bool i)) := ve_of pe_bl fun _ _ => .bl i
theorem ve_non {j pos} : VE X P (.Constant .none j pos) (eC .none) := ve_of pe_non fun _ _ => .non
theorem ve_str {x j pos} : VE X P (.Constant (.str x) j pos) (eC (.str x)) := ve_of pe_str fun _ _ => .str x

/-- a pure operator by data -/
def OpV (r : R2) (g : D → D → Option D) : Prop := ∀ (H : Hp) (B : Addr → Prop) (d1 d2 d : D) (v1 v2 : V) (Q : VK), g d1 d2 = some d → Rp H B d1 v1 → Rp H B d2 v2 → (∀ p, H p = none → ¬ B p) →
  (∀ v H', Ext H H' → Rp H' B d v → Q v H') → r v1 v2 H Q
def eOp (g : D → D → Option D) (fa fb : FE) : FE := fun en => match fa en with
  | some (x, en1) => match fb en1 with
    | some (y, en2) => match g x y with
      | some z => some (z, en2)
      | none => none
    | none => none
  | none => none
theorem tv_op {r : R2} {g : D → D → Option D} (hg : OpV r g) (σ : L2.St) (H : Hp) (Q : VK) (h : tv P (eOp g fa fb) σ H Q) : tOp r (tv P fa) (tv P fb) σ H Q := by
  obtain ⟨Bf, ow, en, k, d, en', hf, q⟩ := h
  unfold eOp at hf
  split at hf
  · rename_i x en1 h1
    split at hf
    · rename_i y en2 h2
      split at hf
      · rename_i z h3
        cases hf
        refine ⟨Bf, ow, en, k, x, en1, h1, fun v1 ow1 H1 k1 r1 p1 => ?_⟩
        refine ⟨Bf, ow1, en1, k1, y, _, h2, fun v2 ow2 H2 k2 r2 p2 => ?_⟩
        refine hg H2 (blk Bf ow2) x y d v1 v2 Q h3 (r2.rp p1) p2 (fun p hp => k2.nb hp) fun v H' ex p => ?_
        exact q v ow2 H' (k2.ext ex) ((r1.trans r2).trans ex.rel) p
      · cases hf
    · cases hf
  · cases hf
theorem ve_op {op : Operator} {r : R2} {g : D → D → Option D} (ho : OpR X (binaryOp op) r) (hg : OpV r g) (ha : VE X P a fa) (hb : VE X P b fb) : VE X P (.BinOp a op b pos) (eOp g fa fb) :=
  PE.weak (pe_op ho ha hb) (tv_op hg)
theorem ve_cmp {op : CmpOp} {r : R2} {g : D → D → Option D} (ho : OpR X (compareOp op) r) (hg : OpV r g) (ha : VE X P a fa) (hb : VE X P b fb) (hm : behindInMarks op b = false) : VE X P (.Compare a [op] [b] pos) (eOp g fa fb) :=
  PE.weak (pe_cmpR ho ha hb hm) (tv_op hg)
theorem ve_ix {r : R2} {g : D → D → Option D} (ho : IxR X r) (hg : OpV r g) (ha : VE X P a fa) (hb : VE X P b fb) (hm : PlainIx b) : VE X P (.Subscript a b pos) (eOp g fa fb) :=
  PE.weak (pe_ix ho ha hb hm) (tv_op hg)
end
end VL

namespace VL
open PySem PySem.Spec
open PyProof.Rows L2

section
variable {K : PySem.W.Frag}
/-- two ints -/
def gII (c : Int → Int → Bool) (f : Int → Int → D) : D → D → Option D
  | .int i, .int j => if c i j then some (f i j) else none
  | _, _ => none
theorem ov_ii {C : Int → Int → Prop} {c : Int → Int → Bool} {gv : Int → Int → V} {f : Int → Int → D} (hc : ∀ i j, c i j = true → C i j) (hf : ∀ H B i j, Rp H B (f i j) (gv i j)) : OpV (rI C gv) (gII c f) := by
  intro H B d1 d2 d v1 v2 Q e p1 p2 nb q
  unfold gII at e
  split at e
  · rename_i i j
    split at e
    · rename_i h
      cases e
      cases p1
      cases p2
      exact ⟨i, j, rfl, rfl, hc i j h, q _ H .refl (hf H B i j)⟩
    · cases e
  · cases e
theorem ov_ii0 {gv : Int → Int → V} {f : Int → Int → D} (hf : ∀ H B i j, Rp H B (f i j) (gv i j)) : OpV (rI0 gv) (gII (fun _ _ => true) f) := by
  intro H B d1 d2 d v1 v2 Q e p1 p2 nb q
  unfold gII at e
  split at e
  · rename_i i j
    cases e
    cases p1
    cases p2
    exact ⟨i, j, rfl, rfl, q _ H .refl (hf H B i j)⟩
  · cases e
end

/-! ### + -/
def rCatR : R2 := fun x y H Q => ∃ l b xs zs, x = .ref l ∧ y = .ref b ∧ Rd H l (.lst xs) ∧ Rd H b (.lst zs) ∧ xs.length + zs.length ≤ sizeLine ∧ ∀ p, H p = none → Q (.ref p) (upd H p (.lst (xs ++ zs)))
theorem op_catR {X : Cx} : OpR X (binaryOp .Add) rCatR := by
  intro pins s σ H x y v u Q I rx ry h
  obtain ⟨l, b, xs, zs, rfl, rfl, hH, hB, hz, q⟩ := h
  cases rx
  cases ry
  obtain ⟨z, its, n, r, e⟩ := hH.ok I.hok
  obtain ⟨z2, its2, n2, r2, e2⟩ := hB.ok I.hok
  have hl := r.length
  have hl2 := r2.length
  refine PySem.P.add_list e e2 ?_ (by rw [List.size_toArray, List.size_toArray]; omega)
  have ea : its.toArray ++ its2.toArray = (its ++ its2).toArray := by simp
  rw [ea]
  refine ⟨.ref _, _, I.laid (t' := s.toks) (o := .lst (xs ++ zs)) (fun b ob q => Heap.get?_push_of_some _ q) (Nat.le_refl _) ?_, rfl, q _ (I.hok.fresh (Nat.le_refl _))⟩
  exact ⟨by rw [List.length_append]; exact hz, _, 0, r.append r2, Heap.get?_push_size _ rfl⟩
def rTupAdd : R2 := fun x y H Q => ∃ a b xs ys, x = .ref a ∧ y = .ref b ∧ H a = some (.tup xs) ∧ H b = some (.tup ys) ∧ xs.length + ys.length ≤ sizeLine ∧
  (xs = [] → Q (.ref b) H) ∧ (xs ≠ [] → ys = [] → Q (.ref a) H) ∧ (xs ≠ [] → ys ≠ [] → ∀ p, H p = none → Q (.ref p) (upd H p (.tup (xs ++ ys))))
theorem op_tupAdd {X : Cx} : OpR X (binaryOp .Add) rTupAdd := by
  intro pins s σ H x y v u Q I rx ry h
  obtain ⟨a, b, xs, ys, rfl, rfl, ha, hb, hz, q0, q1, q2⟩ := h
  by_cases hx : xs = []
  · cases rx
    cases ry
    obtain ⟨its, r1, p1, _⟩ := I.tuple (SqT.of ha)
    obtain ⟨its2, r2, p2, _⟩ := I.tuple (SqT.of hb)
    obtain ⟨⟨cls, dd, data, sl⟩, ho, hc, n, hd⟩ := id p1
    obtain ⟨⟨cls2, dd2, data2, sl2⟩, ho2, hc2, n2, hd2⟩ := id p2
    simp only at hc hd hc2 hd2
    subst hc hd hc2 hd2
    subst hx
    cases r1
    exact concat_meets ⟨_, ho, rfl⟩ ⟨_, ho2, rfl⟩ noFill_tuple_add seq_tuple_add PySem.F.slot_tuple_add PySem.F.entry_tuple_add (PySem.F.args_tuple_add_2 _ _)
      (tuple_addW0 a b #[] its2.toArray n n2 dd dd2 sl sl2 (by simp)) ⟨ho, ho2, ⟨.ref b, H, I, rfl, q0 rfl⟩⟩
  · exact op_catT pins s σ H _ _ v u Q I rx ry ⟨a, b, xs, ys, rfl, rfl, SqT.of ha, SqT.of hb, hx, hz, q1 hx, q2 hx⟩
def gAdd : D → D → Option D
  | .int i, .int j => some (.int (i + j))
  | .str x, .str y => if x.length + y.length ≤ sizeLine then some (.str (x ++ y)) else none
  | .list xs, .list ys => if xs.length + ys.length ≤ sizeLine then some (.list (xs ++ ys)) else none
  | .tuple xs, .tuple ys => if xs.length + ys.length ≤ sizeLine then some (.tuple (xs ++ ys)) else none
  | _, _ => none
def rAddAll : R2 := fun x y H Q => (∃ i j, x = .int i ∧ y = .int j ∧ Q (.int (i + j)) H) ∨ (∃ i j, x = .str i ∧ y = .str j ∧ i.length + j.length ≤ sizeLine ∧ Q (.str (i ++ j)) H) ∨ rCatR x y H Q ∨ rTupAdd x y H Q
theorem op_addAll {X : Cx} : OpR X (binaryOp .Add) rAddAll := op_add.or (op_add_str.or (op_catR.or op_tupAdd))
theorem ov_add : OpV rAddAll gAdd := by
  intro H B d1 d2 d v1 v2 Q e p1 p2 nb q
  unfold gAdd at e
  split at e
  · cases e
    cases p1
    cases p2
    exact .inl ⟨_, _, rfl, rfl, q _ H .refl (.int _)⟩
  · split at e
    · cases e
      cases p1
      cases p2
      exact .inr (.inl ⟨_, _, rfl, rfl, by assumption, q _ H .refl (.str _)⟩)
    · cases e
  · split at e
    · rename_i h
      cases e
      cases p1 with
      | lst b1 r1 s1 =>
        cases p2 with
        | lst b2 r2 s2 =>
          refine .inr (.inr (.inl ⟨_, _, _, _, rfl, rfl, r1, r2, by rw [← s1.length, ← s2.length]; exact h, fun p hp => ?_⟩))
          exact q _ _ (.upd hp) (.lst (nb p hp) (.inl upd_same) ((Ext.upd hp).rpl (s1.append s2)))
    · cases e
  · split at e
    · rename_i h
      cases e
      cases p1 with
      | tup b1 r1 s1 =>
        cases p2 with
        | tup b2 r2 s2 =>
          refine .inr (.inr (.inr ⟨_, _, _, _, rfl, rfl, r1, r2, by rw [← s1.length, ← s2.length]; exact h, fun hx => ?_, fun _ hy => ?_, fun _ _ p hp => ?_⟩))
          · subst hx
            cases s1
            exact q _ H .refl (.tup b2 r2 s2)
          · subst hy
            cases s2
            rw [List.append_nil] at q
            exact q _ H .refl (.tup b1 r1 s1)
          · exact q _ _ (.upd hp) (.tup (nb p hp) upd_same ((Ext.upd hp).rpl (s1.append s2)))
    · cases e
  · cases e

/-! ### the other operators on ints -/
theorem ri (i : Int) : ∀ H B, Rp H B (.int i) (.int i) := fun _ _ => .int i
def gSub : D → D → Option D := gII (fun _ _ => true) fun i j => .int (i - j)
theorem ov_sub : OpV (rI0 fun i j => .int (i - j)) gSub := ov_ii0 fun _ _ _ _ => .int _
def gMulI : D → D → Option D := gII (fun i j => decide (i.natAbs.log2 + j.natAbs.log2 < 1000000)) fun i j => .int (i * j)
theorem ov_mulI : OpV (rI CMulW fun i j => .int (i * j)) gMulI := ov_ii (fun i j h => by simpa [CMulW, CDivW, CPow] using h) fun _ _ _ _ => .int _
def gMod : D → D → Option D := gII (fun _ j => decide (0 < j)) fun i j => .int (i % j)
theorem ov_mod : OpV (rI (fun _ j => 0 < j) fun i j => .int (i % j)) gMod := ov_ii (fun i j h => by simpa [CMulW, CDivW, CPow] using h) fun _ _ _ _ => .int _
def gFdiv : D → D → Option D := gII (fun _ j => decide (0 < j ∧ j.natAbs.log2 < 9000)) fun i j => .int (i / j)
theorem ov_fdiv : OpV (rI CDivW fun i j => .int (i / j)) gFdiv := ov_ii (fun i j h => by simpa [CMulW, CDivW, CPow] using h) fun _ _ _ _ => .int _
def gPow : D → D → Option D := gII (fun i j => decide (0 ≤ j ∧ j ≤ 1000000 ∧ i.natAbs < 2 ^ 64)) fun i j => .int (i ^ j.toNat)
theorem ov_pow : OpV (rI CPow fun i j => .int (i ^ j.toNat)) gPow := ov_ii (fun i j h => by simpa [CMulW, CDivW, CPow] using h) fun _ _ _ _ => .int _

/-! ### comparisons -/
def gEq (d e : D) : Option D := if SeqAt.shaped d = true ∧ SeqAt.shaped e = true then some (.bool (PyData.eqv d e)) else none
theorem ov_eq {K : PySem.W.Frag} : OpV (rEqD K) gEq := by
  intro H B d1 d2 d v1 v2 Q e p1 p2 nb q
  unfold gEq at e
  split at e
  · rename_i h
    cases e
    exact ⟨d1, d2, p1.dp, p2.dp, h.1, h.2, q _ H .refl (.bl _)⟩
  · cases e
def gNe (d e : D) : Option D := if SeqAt.shaped d = true ∧ SeqAt.shaped e = true then some (.bool (!PyData.eqv d e)) else none
theorem ov_ne {K : PySem.W.Frag} : OpV (rNeD K) gNe := by
  intro H B d1 d2 d v1 v2 Q e p1 p2 nb q
  unfold gNe at e
  split at e
  · rename_i h
    cases e
    exact ⟨d1, d2, p1.dp, p2.dp, h.1, h.2, q _ H .refl (.bl _)⟩
  · cases e
def intsOf : List D → Option (List Int)
  | [] => some []
  | .int i :: r => (intsOf r).map (i :: ·)
  | _ => none
theorem intsOf_eq : ∀ {ds : List D} {ns : List Int}, intsOf ds = some ns → ds = ns.map .int
  | [], ns, h => by cases h; rfl
  | .int i :: r, ns, h => by
    cases e : intsOf r with
    | none => simp [intsOf, e] at h
    | some ms =>
      simp [intsOf, e] at h
      subst h
      rw [intsOf_eq e]
      rfl
  | .none :: r, _, h => by simp [intsOf] at h
  | .bool _ :: r, _, h => by simp [intsOf] at h
  | .str _ :: r, _, h => by simp [intsOf] at h
  | .list _ :: r, _, h => by simp [intsOf] at h
  | .tuple _ :: r, _, h => by simp [intsOf] at h
  | .dict _ :: r, _, h => by simp [intsOf] at h
theorem intsOf_map : ∀ ns : List Int, intsOf (ns.map .int) = some ns
  | [] => rfl
  | n :: ns => by simp [intsOf, intsOf_map ns]
def gLt : D → D → Option D
  | .int i, .int j => some (.bool (decide (i < j)))
  | .tuple xs, .tuple ys => match intsOf xs, intsOf ys with
    | some ns, some ms => some (.bool (HT.lexLt ns ms))
    | _, _ => none
  | _, _ => none
def rLtAll (K : PySem.W.Frag) : R2 := fun x y H Q => (∃ i j, x = .int i ∧ y = .int j ∧ Q (.bl (decide (i < j))) H) ∨ rLtT K x y H Q
theorem op_ltAll {X : Cx} (hu : X.A.units < cLine) : OpR X (compareOp .Lt) (rLtAll X.K) := op_lt.or (op_ltT hu)
theorem ov_lt {K : PySem.W.Frag} : OpV (rLtAll K) gLt := by
  intro H B d1 d2 d v1 v2 Q e p1 p2 nb q
  unfold gLt at e
  split at e
  · cases e
    cases p1
    cases p2
    exact .inl ⟨_, _, rfl, rfl, q _ H .refl (.bl _)⟩
  · split at e
    · rename_i h1 h2
      cases e
      have e1 := intsOf_eq h1
      have e2 := intsOf_eq h2
      subst e1 e2
      cases p1 with
      | tup b1 r1 s1 =>
        cases p2 with
        | tup b2 r2 s2 =>
          have := s1.ints
          have := s2.ints
          subst_vars
          exact .inr ⟨_, _, _, _, rfl, rfl, SqT.of r1, SqT.of r2, q _ H .refl (.bl _)⟩
    · cases e
  · cases e
def gLe : D → D → Option D := gII (fun _ _ => true) fun i j => .bool (decide (i ≤ j))
theorem ov_le : OpV (rI0 fun i j => .bl (decide (i ≤ j))) gLe := ov_ii0 fun _ _ _ _ => .bl _
def gGt : D → D → Option D := gII (fun _ _ => true) fun i j => .bool (decide (j < i))
theorem ov_gt : OpV (rI0 fun i j => .bl (decide (j < i))) gGt := ov_ii0 fun _ _ _ _ => .bl _
def gGe : D → D → Option D := gII (fun _ _ => true) fun i j => .bool (decide (j ≤ i))
theorem ov_ge : OpV (rI0 fun i j => .bl (decide (j ≤ i))) gGe := ov_ii0 fun _ _ _ _ => .bl _
def isNone : D → Bool
  | .none => true
  | _ => false
def gIs : D → D → Option D
  | d, .none => some (.bool (isNone d))
  | _, _ => none
def gIsNot : D → D → Option D
  | d, .none => some (.bool (!isNone d))
  | _, _ => none
theorem Rp.none_iff {H : Hp} {B : Addr → Prop} {d : D} {v : V} (r : Rp H B d v) : isNone d = decide (v = .non) := by
  cases r <;> rfl
theorem ov_is : OpV (fun x y H Q => y = .non ∧ Q (.bl (decide (x = .non))) H) gIs := by
  intro H B d1 d2 d v1 v2 Q e p1 p2 nb q
  unfold gIs at e
  split at e
  · cases e
    cases p2
    refine ⟨rfl, q _ H .refl ?_⟩
    rw [p1.none_iff]
    exact .bl _
  · cases e
theorem ov_isnot : OpV (fun x y H Q => y = .non ∧ Q (.bl (!decide (x = .non))) H) gIsNot := by
  intro H B d1 d2 d v1 v2 Q e p1 p2 nb q
  unfold gIsNot at e
  split at e
  · cases e
    cases p2
    refine ⟨rfl, q _ H .refl ?_⟩
    rw [p1.none_iff]
    exact .bl _
  · cases e

/-! ### x[i] -/
def gIx : D → D → Option D
  | .list xs, .int i => atI xs i
  | .tuple xs, .int i => atI xs i
  | .str z, .int i => if z.length ≤ sizeLine then (atI z.cps.toList i).map fun c => .str ⟨#[c]⟩ else none
  | _, _ => none
theorem RpL.atI {H : Hp} {B : Addr → Prop} {ds : List D} {vs : List V} {i : Int} {d : D} (r : RpL H B ds vs) (e : L2.atI ds i = some d) : ∃ v, L2.atI vs i = some v ∧ Rp H B d v := by
  unfold L2.atI at e ⊢
  rw [← r.length]
  cases h : ixN ds.length i with
  | none => rw [h] at e; cases e
  | some j =>
    rw [h] at e
    exact r.get e
theorem ov_ix {K : PySem.W.Frag} : OpV (rIx K) gIx := by
  intro H B d1 d2 d v1 v2 Q e p1 p2 nb q
  unfold gIx at e
  split at e
  · cases p2
    cases p1 with
    | lst b1 r1 s1 =>
      obtain ⟨v, h1, h2⟩ := s1.atI e
      exact .inl ⟨_, _, _, v, rfl, rfl, .inl r1, h1, q _ H .refl h2⟩
  · cases p2
    cases p1 with
    | tup b1 r1 s1 =>
      obtain ⟨v, h1, h2⟩ := s1.atI e
      exact .inr (.inl ⟨_, _, _, v, rfl, rfl, SqT.of r1, h1, q _ H .refl h2⟩)
  · rename_i z i
    split at e
    · rename_i hz
      cases p2
      cases p1
      cases h : atI z.cps.toList i with
      | none => rw [h] at e; cases e
      | some c =>
        rw [h] at e
        cases e
        exact .inr (.inr ⟨z, i, c, rfl, rfl, hz, h, q _ H .refl (.str _)⟩)
    · cases e
  · cases e
end VL

namespace VL
open PySem PySem.Spec
open PyProof.Rows L2

/-! ### tests -/
abbrev FT := En → Option (Bool × En)
def tvT (P : Pl) (f : FT) : TT := fun σ H Q => ∃ Bf ow en, Ok P Bf ow en σ H ∧ ∃ b en', f en = some (b, en') ∧
  ∀ ow' H', Ok P Bf ow' en' σ H' → Rel P H ow H' ow' → Q b H'
def VT (X : Cx) (P : Pl) (e : Expr) (f : FT) : Prop := PT X e (tvT P f)
def VW (X : Cx) (P : Pl) (e : Expr) (f : FT) : Prop := PW X e (tvT P f)
theorem PT.weak {X : Cx} {e : Expr} {t t' : TT} (h : PT X e t) (w : ∀ σ H Q, t' σ H Q → t σ H Q) : PT X e t' :=
  ⟨fun pins s σ H Q I q => h.run pins s σ H Q I (w σ H Q q)⟩
theorem PW.weak {X : Cx} {e : Expr} {t t' : TT} (h : PW X e t) (w : ∀ σ H Q, t' σ H Q → t σ H Q) : PW X e t' :=
  ⟨fun wh pins s σ H Q I q => h.run wh pins s σ H Q I (w σ H Q q)⟩

section
variable {X : Cx} {P : Pl} {a b c e : Expr} {rest : List Expr} {fa fb fc : FE} {ta tb : FT} {pos : Pos}
def truD : D → Option Bool
  | .none => some false
  | .bool b => some b
  | .int i => some (i != 0)
  | .str y => if y.length ≤ sizeLine then some ((y.length : Int) != 0) else none
  | .list xs => some (!xs.isEmpty)
  | .tuple xs => some (!xs.isEmpty)
  | .dict _ => none
def fTru (f : FE) : FT := fun en => match f en with
  | some (d, en1) => match truD d with
    | some b => some (b, en1)
    | none => none
  | none => none
theorem tru_of {K : PySem.W.Frag} {H : Hp} {B : Addr → Prop} {d : D} {v : V} {b : Bool} (r : Rp H B d v) (e : truD d = some b) : TruV K v H b := by
  cases r with
  | non => cases e; exact rfl
  | bl b => cases e; exact rfl
  | int i => cases e; exact rfl
  | str y =>
    have e' : (if y.length ≤ sizeLine then some ((y.length : Int) != 0) else none) = some b := e
    split at e'
    · cases e'
      exact ⟨by assumption, rfl⟩
    · cases e'
  | lst nb r rs =>
    cases e
    refine .inl ⟨_, .inl r, ?_⟩
    cases rs <;> rfl
  | tup nb r rs =>
    cases e
    refine .inr (.inl ⟨_, SqT.of r, ?_⟩)
    cases rs <;> rfl
theorem vt_truth (ha : VE X P a fa) (he : ∀ whole, isTrue a X.env whole = (do let v ← whole; standAt a.pos; holding [v] (truthy v)) := by intro _; rfl) : VT X P a (fTru fa) := by
  refine PT.weak (pt_truth ha he) fun σ H Q h => ?_
  obtain ⟨Bf, ow, en, k, b, en', hf, q⟩ := h
  unfold fTru at hf
  split at hf
  · rename_i d en1 h1
    split at hf
    · rename_i b' h2
      cases hf
      exact ⟨Bf, ow, en, k, d, _, h1, fun v ow1 H1 k1 r1 p1 => ⟨_, tru_of p1 h2, q ow1 H1 k1 r1⟩⟩
    · cases hf
  · cases hf
def fBool (f : FE) : FT := fun en => match f en with
  | some (.bool b, en1) => some (b, en1)
  | _ => none
theorem tvT_bool {f : FE} (σ : L2.St) (H : Hp) (Q : Bool → Hp → Prop) (h : tvT P (fBool f) σ H Q) : tv P f σ H fun x H' => ∃ k, x = .bl k ∧ Q k H' := by
  obtain ⟨Bf, ow, en, k, b, en', hf, q⟩ := h
  unfold fBool at hf
  split at hf
  · rename_i b' en1 h1
    cases hf
    exact ⟨Bf, ow, en, k, _, _, h1, fun v ow1 H1 k1 r1 p1 => by cases p1; exact ⟨_, rfl, q ow1 H1 k1 r1⟩⟩
  · cases hf
theorem vt_cmp {op : CmpOp} {r : R2} {g : D → D → Option D} (ho : OpR X (compareOp op) r) (hg : OpV r g) (ha : VE X P a fa) (hb : VE X P b fb) (hm : behindInMarks op b = false) : VT X P (.Compare a [op] [b] pos) (fBool (eOp g fa fb)) :=
  PT.weak (pt_cmpR ho ha hb hm) fun σ H Q h => tv_op hg σ H _ (tvT_bool σ H Q h)
def fNot (f : FT) : FT := fun en => match f en with
  | some (b, en1) => some (!b, en1)
  | none => none
theorem vt_not (ha : VT X P a ta) : VT X P (.UnaryOp .Not a pos) (fNot ta) := by
  refine PT.weak (pt_not ha) fun σ H Q h => ?_
  obtain ⟨Bf, ow, en, k, b, en', hf, q⟩ := h
  unfold fNot at hf
  split at hf
  · rename_i b' en1 h1
    cases hf
    exact ⟨Bf, ow, en, k, _, _, h1, fun ow1 H1 k1 r1 => q ow1 H1 k1 r1⟩
  · cases hf
def fAnd (f g : FT) : FT := fun en => match f en with
  | some (true, en1) => g en1
  | some (false, en1) => some (false, en1)
  | none => none
def fOr (f g : FT) : FT := fun en => match f en with
  | some (true, en1) => some (true, en1)
  | some (false, en1) => g en1
  | none => none
theorem vw_and1 (ha : VT X P a ta) : VW X P (.BoolOp .And [a] pos) ta := pw_and1 ha
theorem vw_or1 (ha : VT X P a ta) : VW X P (.BoolOp .Or [a] pos) ta := pw_or1 ha
theorem vw_and (ha : VT X P a ta) (hb : VW X P (.BoolOp .And (b :: rest) pos) tb) : VW X P (.BoolOp .And (a :: b :: rest) pos) (fAnd ta tb) := by
  refine PW.weak (pw_and ha hb) fun σ H Q h => ?_
  obtain ⟨Bf, ow, en, k, b, en', hf, q⟩ := h
  unfold fAnd at hf
  split at hf
  · rename_i en1 h1
    exact ⟨Bf, ow, en, k, _, _, h1, fun ow1 H1 k1 r1 => ⟨Bf, ow1, en1, k1, b, en', hf, fun ow2 H2 k2 r2 => q ow2 H2 k2 (r1.trans r2)⟩⟩
  · rename_i en1 h1
    cases hf
    exact ⟨Bf, ow, en, k, _, _, h1, fun ow1 H1 k1 r1 => q ow1 H1 k1 r1⟩
  · cases hf
theorem vw_or (ha : VT X P a ta) (hb : VW X P (.BoolOp .Or (b :: rest) pos) tb) : VW X P (.BoolOp .Or (a :: b :: rest) pos) (fOr ta tb) := by
  refine PW.weak (pw_or ha hb) fun σ H Q h => ?_
  obtain ⟨Bf, ow, en, k, b, en', hf, q⟩ := h
  unfold fOr at hf
  split at hf
  · rename_i en1 h1
    cases hf
    exact ⟨Bf, ow, en, k, _, _, h1, fun ow1 H1 k1 r1 => q ow1 H1 k1 r1⟩
  · rename_i en1 h1
    exact ⟨Bf, ow, en, k, _, _, h1, fun ow1 H1 k1 r1 => ⟨Bf, ow1, en1, k1, b, en', hf, fun ow2 H2 k2 r2 => q ow2 H2 k2 (r1.trans r2)⟩⟩
  · cases hf
theorem vt_bop (h : VW X P e ta) : VT X P e ta := h.pt

/-! ### and, or, not, if as values -/
def eAnd (f g : FE) : FE := fun en => match f en with
  | some (.bool true, en1) => g en1
  | some (.bool false, en1) => some (.bool false, en1)
  | _ => none
def eOr (f g : FE) : FE := fun en => match f en with
  | some (.bool true, en1) => some (.bool true, en1)
  | some (.bool false, en1) => g en1
  | _ => none
def eNot (f : FE) : FE := fun en => match f en with
  | some (.bool b, en1) => some (.bool (!b), en1)
  | _ => none
theorem ve_one {op} (h : VE X P a fa) : VE X P (.BoolOp op [a] pos) fa := pe_one h
theorem ve_and (ha : VE X P a fa) (hb : VE X P (.BoolOp .And (b :: rest) pos) fb) : VE X P (.BoolOp .And (a :: b :: rest) pos) (eAnd fa fb) := by
  refine PE.weak (pe_and ha hb) fun σ H Q h => ?_
  obtain ⟨Bf, ow, en, k, d, en', hf, q⟩ := h
  unfold eAnd at hf
  split at hf
  · rename_i en1 h1
    exact ⟨Bf, ow, en, k, _, _, h1, fun v ow1 H1 k1 r1 p1 => by
      cases p1
      exact ⟨true, rfl, Bf, ow1, en1, k1, d, en', hf, fun v ow2 H2 k2 r2 p2 => q v ow2 H2 k2 (r1.trans r2) p2⟩⟩
  · rename_i en1 h1
    cases hf
    exact ⟨Bf, ow, en, k, _, _, h1, fun v ow1 H1 k1 r1 p1 => by
      cases p1
      exact ⟨false, rfl, q _ ow1 H1 k1 r1 (.bl false)⟩⟩
  · cases hf
theorem ve_or (ha : VE X P a fa) (hb : VE X P (.BoolOp .Or (b :: rest) pos) fb) : VE X P (.BoolOp .Or (a :: b :: rest) pos) (eOr fa fb) := by
  refine PE.weak (pe_or ha hb) fun σ H Q h => ?_
  obtain ⟨Bf, ow, en, k, d, en', hf, q⟩ := h
  unfold eOr at hf
  split at hf
  · rename_i en1 h1
    cases hf
    exact ⟨Bf, ow, en, k, _, _, h1, fun v ow1 H1 k1 r1 p1 => by
      cases p1
      exact ⟨true, rfl, q _ ow1 H1 k1 r1 (.bl true)⟩⟩
  · rename_i en1 h1
    exact ⟨Bf, ow, en, k, _, _, h1, fun v ow1 H1 k1 r1 p1 => by
      cases p1
      exact ⟨false, rfl, Bf, ow1, en1, k1, d, en', hf, fun v ow2 H2 k2 r2 p2 => q v ow2 H2 k2 (r1.trans r2) p2⟩⟩
  · cases hf
theorem ve_not (ha : VE X P a fa) : VE X P (.UnaryOp .Not a pos) (eNot fa) := by
  refine PE.weak (pe_not ha) fun σ H Q h => ?_
  obtain ⟨Bf, ow, en, k, d, en', hf, q⟩ := h
  unfold eNot at hf
  split at hf
  · rename_i b en1 h1
    cases hf
    exact ⟨Bf, ow, en, k, _, _, h1, fun v ow1 H1 k1 r1 p1 => by
      cases p1
      exact ⟨_, rfl, q _ ow1 H1 k1 r1 (.bl _)⟩⟩
  · cases hf
def eNeg (f : FE) : FE := fun en => match f en with
  | some (.int b, en1) => some (.int (-b), en1)
  | _ => none
theorem ve_neg (ha : VE X P a fa) : VE X P (.UnaryOp .USub a pos) (eNeg fa) := by
  refine PE.weak (pe_un un_neg ha) fun σ H Q h => ?_
  obtain ⟨Bf, ow, en, k, d, en', hf, q⟩ := h
  unfold eNeg at hf
  split at hf
  · rename_i b en1 h1
    cases hf
    exact ⟨Bf, ow, en, k, _, _, h1, fun v ow1 H1 k1 r1 p1 => by
      cases p1
      exact ⟨_, rfl, q _ ow1 H1 k1 r1 (.int _)⟩⟩
  · cases hf
def eIf (t : FT) (f g : FE) : FE := fun en => match t en with
  | some (true, en1) => f en1
  | some (false, en1) => g en1
  | none => none
theorem ve_if (hc : VT X P c ta) (ha : VE X P a fa) (hb : VE X P b fb) : VE X P (.IfExp c a b pos) (eIf ta fa fb) := by
  refine PE.weak (pe_ifExp hc ha hb) fun σ H Q h => ?_
  obtain ⟨Bf, ow, en, k, d, en', hf, q⟩ := h
  unfold eIf at hf
  split at hf
  · rename_i en1 h1
    exact ⟨Bf, ow, en, k, _, _, h1, fun ow1 H1 k1 r1 => ⟨Bf, ow1, en1, k1, d, en', hf, fun v ow2 H2 k2 r2 p2 => q v ow2 H2 k2 (r1.trans r2) p2⟩⟩
  · rename_i en1 h1
    exact ⟨Bf, ow, en, k, _, _, h1, fun ow1 H1 k1 r1 => ⟨Bf, ow1, en1, k1, d, en', hf, fun v ow2 H2 k2 r2 p2 => q v ow2 H2 k2 (r1.trans r2) p2⟩⟩
  · cases hf
/-- a op1 b op2 c -/
def eChain (g g' : D → D → Option D) (fa fb fc : FE) : FE := fun en => match fa en with
  | some (x, en1) => match fb en1 with
    | some (y, en2) => match g x y with
      | some (.bool true) => match fc en2 with
        | some (z, en3) => match g' y z with
          | some u => some (u, en3)
          | none => none
        | none => none
      | some (.bool false) => some (.bool false, en2)
      | _ => none
    | none => none
  | none => none
theorem tv_chain {r r' : R2} {g g' : D → D → Option D} (hg : OpV r g) (hg' : OpV r' g') (σ : L2.St) (H : Hp) (Q : VK) (h : tv P (eChain g g' fa fb fc) σ H Q) : tChain r r' (tv P fa) (tv P fb) (tv P fc) σ H Q := by
  obtain ⟨Bf, ow, en, k, d, en', hf, q⟩ := h
  unfold eChain at hf
  split at hf <;> first | cases hf | skip
  rename_i x en1 h1
  split at hf <;> first | cases hf | skip
  rename_i y en2 h2
  refine ⟨Bf, ow, en, k, x, en1, h1, fun v1 ow1 H1 k1 r1 p1 => ⟨Bf, ow1, en1, k1, y, en2, h2, fun v2 ow2 H2 k2 r2 p2 => ?_⟩⟩
  split at hf
  · rename_i h3
    split at hf <;> first | cases hf | skip
    rename_i z en3 h4
    split at hf <;> first | cases hf | skip
    rename_i u h5
    refine hg H2 (blk Bf ow2) x y _ v1 v2 _ h3 (r2.rp p1) p2 (fun p hp => k2.nb hp) fun v H3 ex p => ?_
    cases p
    refine ⟨true, rfl, ?_⟩
    rw [if_pos rfl]
    refine ⟨Bf, ow2, en2, k2.ext ex, z, _, h4, fun v3 ow3 H4 k4 r4 p4 => ?_⟩
    refine hg' H4 (blk Bf ow3) y z _ v2 v3 Q h5 (r4.rp (ex.rp p2)) p4 (fun p hp => k4.nb hp) fun v H5 ex' p => ?_
    exact q v ow3 H5 (k4.ext ex') ((((r1.trans r2).trans ex.rel).trans r4).trans ex'.rel) p
  · rename_i h3
    cases hf
    refine hg H2 (blk Bf ow2) x y _ v1 v2 _ h3 (r2.rp p1) p2 (fun p hp => k2.nb hp) fun v H3 ex p => ?_
    cases p
    refine ⟨false, rfl, ?_⟩
    rw [if_neg (by decide)]
    exact q _ ow2 H3 (k2.ext ex) ((r1.trans r2).trans ex.rel) (.bl false)
  · cases hf
theorem ve_chain {op op' : CmpOp} {r r' : R2} {g g' : D → D → Option D} (ho : OpR X (compareOp op) r) (ho' : OpR X (compareOp op') r') (hg : OpV r g) (hg' : OpV r' g') (ha : VE X P a fa) (hb : VE X P b fb) (hc : VE X P c fc)
    (hm : lastMarks [op, op'] [b, c] = false := by with_unfolding_all rfl) : VE X P (.Compare a [op, op'] [b, c] pos) (eChain g g' fa fb fc) :=
  PE.weak (pe_chain ho ho' ha hb hc hm) (tv_chain hg hg')
theorem vt_chain {op op' : CmpOp} {r r' : R2} {g g' : D → D → Option D} (ho : OpR X (compareOp op) r) (ho' : OpR X (compareOp op') r') (hg : OpV r g) (hg' : OpV r' g') (ha : VE X P a fa) (hb : VE X P b fb) (hc : VE X P c fc)
    (hm : lastMarks [op, op'] [b, c] = false := by with_unfolding_all rfl) : VT X P (.Compare a [op, op'] [b, c] pos) (fBool (eChain g g' fa fb fc)) :=
  PT.weak (pt_chain ho ho' ha hb hc hm) fun σ H Q h => tv_chain hg hg' σ H _ (tvT_bool σ H Q h)

/-! ### argument lists -/
abbrev FA := En → Option (List D × En)
def tvA (P : Pl) (f : FA) : TA := fun σ H Q => ∃ Bf ow en, Ok P Bf ow en σ H ∧ ∃ ds en', f en = some (ds, en') ∧
  ∀ vs ow' H', Ok P Bf ow' en' σ H' → Rel P H ow H' ow' → RpL H' (blk Bf ow') ds vs → Q vs H'
def VA (X : Cx) (P : Pl) (es : List Expr) (f : FA) : Prop := PA X es (tvA P f)
theorem PA.weak {X : Cx} {e : List Expr} {t t' : TA} (h : PA X e t) (w : ∀ σ H Q, t' σ H Q → t σ H Q) : PA X e t' :=
  ⟨fun pos pins s σ H Q I q => h.run pos pins s σ H Q I (w σ H Q q)⟩
def aNil : FA := fun en => some ([], en)
def aCons (f : FE) (g : FA) : FA := fun en => match f en with
  | some (d, en1) => match g en1 with
    | some (ds, en2) => some (d :: ds, en2)
    | none => none
  | none => none
variable {es : List Expr} {ga : FA}
theorem va_nil : VA X P [] aNil := by
  refine PA.weak pa_nil fun σ H Q h => ?_
  obtain ⟨Bf, ow, en, k, d, en', hf, q⟩ := h
  cases hf
  exact q [] ow H k .refl .nil
theorem va_cons (ha : VE X P e fa) (hr : VA X P es ga) (hs : starEach (e :: es) X.env = (false, eval e X.env) :: starEach es X.env := by rfl) : VA X P (e :: es) (aCons fa ga) := by
  refine PA.weak (pa_cons ha hr hs) fun σ H Q h => ?_
  obtain ⟨Bf, ow, en, k, d, en', hf, q⟩ := h
  unfold aCons at hf
  split at hf <;> first | cases hf | skip
  rename_i d1 en1 h1
  split at hf <;> first | cases hf | skip
  rename_i ds en2 h2
  exact ⟨Bf, ow, en, k, _, _, h1, fun v1 ow1 H1 k1 r1 p1 => ⟨Bf, ow1, en1, k1, _, _, h2, fun vs ow2 H2 k2 r2 p2 => q _ ow2 H2 k2 (r1.trans r2) (.cons (r2.rp p1) p2)⟩⟩

/-! ### displays -/
def eTup (f : FA) : FE := fun en => match f en with
  | some (ds, en1) => if ds.length ≤ sizeLine then some (.tuple ds, en1) else none
  | none => none
def eLst (f : FA) : FE := fun en => match f en with
  | some (ds, en1) => if ds.length ≤ sizeLine then some (.list ds, en1) else none
  | none => none
theorem ve_tup {x1} (h : VA X P es ga) : VE X P (.Tuple es x1 pos) (eTup ga) := by
  refine PE.weak (pe_tup h) fun σ H Q h => ?_
  obtain ⟨Bf, ow, en, k, d, en', hf, q⟩ := h
  unfold eTup at hf
  split at hf <;> first | cases hf | skip
  rename_i ds en1 h1
  split at hf <;> first | cases hf | skip
  rename_i hz
  exact ⟨Bf, ow, en, k, _, _, h1, fun vs ow1 H1 k1 r1 p1 => ⟨by rw [← p1.length]; exact hz, fun p hp => q _ ow1 _ (k1.ext (.upd hp)) (r1.trans (Ext.upd hp).rel) (.tup (k1.nb hp) upd_same ((Ext.upd hp).rpl p1))⟩⟩
theorem ve_lst (h : VA X P es ga) : VE X P (.List es pos) (eLst ga) := by
  refine PE.weak (pe_lst h) fun σ H Q h => ?_
  obtain ⟨Bf, ow, en, k, d, en', hf, q⟩ := h
  unfold eLst at hf
  split at hf <;> first | cases hf | skip
  rename_i ds en1 h1
  split at hf <;> first | cases hf | skip
  rename_i hz
  exact ⟨Bf, ow, en, k, _, _, h1, fun vs ow1 H1 k1 r1 p1 => ⟨by rw [← p1.length]; exact hz, fun p hp => q _ ow1 _ (k1.ext (.upd hp)) (r1.trans (Ext.upd hp).rel) (.lst (k1.nb hp) (.inl upd_same) ((Ext.upd hp).rpl p1))⟩⟩

/-! ### calls of built-ins, pure -/
def CaV (r : List V → Hp → VK → Prop) (g : List D → Option D) : Prop := ∀ (H : Hp) (B : Addr → Prop) (ds : List D) (d : D) (vs : List V) (Q : VK), g ds = some d → RpL H B ds vs → (∀ p, H p = none → ¬ B p) →
  (∀ v H', Ext H H' → Rp H' B d v → Q v H') → r vs H Q
def eCall (g : List D → Option D) (f : FA) : FE := fun en => match f en with
  | some (ds, en1) => match g ds with
    | some d => some (d, en1)
    | none => none
  | none => none
theorem tv_call {r : List V → Hp → VK → Prop} {g : List D → Option D} (hg : CaV r g) (σ : L2.St) (H : Hp) (Q : VK) (h : tv P (eCall g ga) σ H Q) : tCB r (tvA P ga) σ H Q := by
  obtain ⟨Bf, ow, en, k, d, en', hf, q⟩ := h
  unfold eCall at hf
  split at hf <;> first | cases hf | skip
  rename_i ds en1 h1
  split at hf <;> first | cases hf | skip
  rename_i d' h2
  exact ⟨Bf, ow, en, k, _, _, h1, fun vs ow1 H1 k1 r1 p1 => hg H1 (blk Bf ow1) ds _ vs Q h2 p1 (fun p hp => k1.nb hp) fun v H' ex p => q v ow1 H' (k1.ext ex) (r1.trans ex.rel) p⟩
theorem ve_callB {id : String} {x : Str} {p : Pos} {r : List V → Hp → VK → Prop} {g : List D → Option D} (hc : CallR X (.builtin id) r) (hgv : CaV r g) (hg : Gl X x) (hm : X.mg x = none) (hv : bootBuiltins x = some (.builtin id)) (ha : VA X P (e :: es) ga)
    (hn : x ≠ "__name__" := by decide) (hdb : (x == ("__debug__" : Str)) = false := by decide)
    (he : starEach (e :: es) X.env = (false, eval e X.env) :: starEach es X.env := by rfl) (hpl : (backTo pos (starEach es X.env)).any (·.1) = false := by rfl) : VE X P (.Call (.Name x p) (e :: es) [] pos) (eCall g ga) :=
  PE.weak (pe_callB hc hg hm hv ha hn hdb he hpl) (tv_call hgv)
theorem ve_callTy {T : String} {x : Str} {p : Pos} {r : List V → Hp → VK → Prop} {g : List D → Option D} (hc : CallR X (.type T) r) (hgv : CaV r g) (hg : Gl X x) (hm : X.mg x = none) (hv : bootBuiltins x = some (.type T)) (ha : VA X P (e :: es) ga)
    (hn : x ≠ "__name__" := by decide) (hdb : (x == ("__debug__" : Str)) = false := by decide)
    (he : starEach (e :: es) X.env = (false, eval e X.env) :: starEach es X.env := by rfl) (hpl : (backTo pos (starEach es X.env)).any (·.1) = false := by rfl) : VE X P (.Call (.Name x p) (e :: es) [] pos) (eCall g ga) :=
  PE.weak (pe_callTy hc hg hm hv ha hn hdb he hpl) (tv_call hgv)
end
end VL

namespace VL
open PySem PySem.Spec
open PyProof.Rows L2

/-! ### statements -/
inductive Out where
  | nx (en : En) | bk (en : En) | ct (en : En) | rt (d : D) (en : En) | rf (ds : List D) (en : En)
abbrev FS := En → Option Out
/-- .. across statements: slots may get lists of their own -/
structure RelS (P : Pl) (H : Hp) (ow : Nat → Option Addr) (H' : Hp) (ow' : Nat → Option Addr) : Prop where
  hkeep : ∀ b o, H b = some o → NT o → (∀ i, ow i ≠ some b) → H' b = some o ∧ (∀ i, ow' i ≠ some b)
  hsome : ∀ b, H b ≠ none → H' b ≠ none
  hpin : ∀ i, i ∈ P → ow' i = ow i
section
variable {P : Pl} {Bf : Bk} {ow ow' ow1 : Nat → Option Addr} {H H' H1 : Hp}
theorem Rel.s (a : Rel P H ow H' ow') : RelS P H ow H' ow' := ⟨a.hkeep, a.hsome, a.hpin⟩
theorem RelS.refl : RelS P H ow H ow := Rel.refl.s
theorem RelS.trans (a : RelS P H ow H1 ow1) (b : RelS P H1 ow1 H' ow') : RelS P H ow H' ow' :=
  ⟨fun x o e t n => b.hkeep x o (a.hkeep x o e t n).1 t (a.hkeep x o e t n).2, fun x e => b.hsome x (a.hsome x e), fun i hi => (b.hpin i hi).trans (a.hpin i hi)⟩
theorem RelS.mv (a : RelS P H ow H' ow') : ∀ b o, H b = some o → NT o → ¬ blk Bf ow b → H' b = some o ∧ ¬ blk Bf ow' b := fun b o e t n => by
  have h := a.hkeep b o e t fun i z => n (.inr ⟨i, z⟩)
  exact ⟨h.1, fun z => z.elim (fun z => n (.inl z)) fun ⟨i, z⟩ => h.2 i z⟩
theorem RelS.rp (a : RelS P H ow H' ow') {d : D} {v : V} (r : Rp H (blk Bf ow) d v) : Rp H' (blk Bf ow') d v := r.move a.mv
theorem RelS.rpl (a : RelS P H ow H' ow') {d : List D} {v : List V} (r : RpL H (blk Bf ow) d v) : RpL H' (blk Bf ow') d v := r.move a.mv
end
def post (P : Pl) (Bf : Bk) (Dn : Ends) (H : Hp) (ow : Nat → Option Addr) : Out → Prop
  | .nx en' => ∀ ow' σ' H', Ok P Bf ow' en' σ' H' → RelS P H ow H' ow' → Dn.nx σ' H'
  | .bk en' => ∀ ow' σ' H', Ok P Bf ow' en' σ' H' → RelS P H ow H' ow' → Dn.bk σ' H'
  | .ct en' => ∀ ow' σ' H', Ok P Bf ow' en' σ' H' → RelS P H ow H' ow' → Dn.ct σ' H'
  | .rt d en' => ∀ ow' σ' H' v, Ok P Bf ow' en' σ' H' → RelS P H ow H' ow' → Rp H' (blk Bf ow') d v → Dn.rt v H'
  | .rf ds en' => ∀ ow' σ' H' p xs, Ok P (insB Bf p) ow' en' σ' H' → RelS P H ow H' ow' → ¬ Bf.bl p → ¬ Bf.od p → (∀ i, ow' i ≠ some p) → H' p = some (.lst xs) → RpL H' (blk (insB Bf p) ow') ds xs → Dn.rt (.ref p) H'
def tvS (P : Pl) (f : FS) : TS := fun Dn σ H => ∃ Bf ow en, Ok P Bf ow en σ H ∧ ∃ o, f en = some o ∧ post P Bf Dn H ow o
def VS (X : Cx) (P : Pl) (st : Stmt) (f : FS) : Prop := PS X st (tvS P f)
def VB (X : Cx) (P : Pl) (st : List Stmt) (f : FS) : Prop := PSs X st (tvS P f)
theorem PS.weak {X : Cx} {st : Stmt} {t t' : TS} (h : PS X st t) (w : ∀ Dn σ H, t' Dn σ H → t Dn σ H) : PS X st t' :=
  ⟨fun pins s σ H Dn I q => h.run pins s σ H Dn I (w Dn σ H q)⟩
theorem PSs.weak {X : Cx} {st : List Stmt} {t t' : TS} (h : PSs X st t) (w : ∀ Dn σ H, t' Dn σ H → t Dn σ H) : PSs X st t' :=
  ⟨fun pins s σ H Dn I q => h.run pins s σ H Dn I (w Dn σ H q)⟩
theorem post.trans {P : Pl} {Bf : Bk} {Dn : Ends} {H H1 : Hp} {ow ow1 : Nat → Option Addr} {o : Out} (h : post P Bf Dn H ow o) (r : RelS P H ow H1 ow1) : post P Bf Dn H1 ow1 o := by
  cases o with
  | nx en => exact fun ow' σ' H' k r' => h ow' σ' H' k (r.trans r')
  | bk en => exact fun ow' σ' H' k r' => h ow' σ' H' k (r.trans r')
  | ct en => exact fun ow' σ' H' k r' => h ow' σ' H' k (r.trans r')
  | rt d en => exact fun ow' σ' H' v k r' p => h ow' σ' H' v k (r.trans r') p
  | rf d en => exact fun ow' σ' H' p xs k r' => h ow' σ' H' p xs k (r.trans r')

section
variable {X : Cx} {P : Pl} {a b c e : Expr} {st : Stmt} {rest as bs : List Stmt} {fa fb fc : FE} {ta tb : FT} {f g : FS} {pos : Pos}
def sNil : FS := fun en => some (.nx en)
def sSeq (f g : FS) : FS := fun en => match f en with
  | some (.nx en1) => g en1
  | some (.bk en1) => some (.bk en1)
  | some (.ct en1) => some (.ct en1)
  | some (.rt d en1) => some (.rt d en1)
  | some (.rf d en1) => some (.rf d en1)
  | none => none
theorem vb_nil : VB X P [] sNil := PSs.weak pss_nil fun Dn σ H h => by
  obtain ⟨Bf, ow, en, k, o, hf, q⟩ := h
  cases hf
  exact q ow σ H k .refl
theorem vb_cons (h1 : VS X P st f) (h2 : VB X P rest g) : VB X P (st :: rest) (sSeq f g) := PSs.weak (pss_cons h1 h2) fun Dn σ H h => by
  obtain ⟨Bf, ow, en, k, o, hf, q⟩ := h
  unfold sSeq at hf
  split at hf
  · rename_i en1 h1
    exact ⟨Bf, ow, en, k, _, h1, fun ow1 σ1 H1 k1 r1 => ⟨Bf, ow1, en1, k1, o, hf, q.trans r1⟩⟩
  · rename_i en1 h1
    cases hf
    exact ⟨Bf, ow, en, k, _, h1, q⟩
  · rename_i en1 h1
    cases hf
    exact ⟨Bf, ow, en, k, _, h1, q⟩
  · rename_i d en1 h1
    cases hf
    exact ⟨Bf, ow, en, k, _, h1, q⟩
  · rename_i d en1 h1
    cases hf
    exact ⟨Bf, ow, en, k, _, h1, q⟩
  · cases hf
theorem vb_one (h1 : VS X P st f) : VB X P [st] f := pss_one h1
def sBrk : FS := fun en => some (.bk en)
def sCnt : FS := fun en => some (.ct en)
theorem vs_pass : VS X P (.Pass pos) sNil := PS.weak ps_pass fun Dn σ H h => by
  obtain ⟨Bf, ow, en, k, o, hf, q⟩ := h
  cases hf
  exact q ow σ H k .refl
theorem vs_break : VS X P (.Break pos) sBrk := PS.weak ps_break fun Dn σ H h => by
  obtain ⟨Bf, ow, en, k, o, hf, q⟩ := h
  cases hf
  exact q ow σ H k .refl
theorem vs_continue : VS X P (.Continue pos) sCnt := PS.weak ps_continue fun Dn σ H h => by
  obtain ⟨Bf, ow, en, k, o, hf, q⟩ := h
  cases hf
  exact q ow σ H k .refl
theorem vs_doc {x j pos pos'} : VS X P (.Expr (.Constant (.str x) j pos) pos') sNil := PS.weak ps_doc fun Dn σ H h => by
  obtain ⟨Bf, ow, en, k, o, hf, q⟩ := h
  cases hf
  exact q ow σ H k .refl
def sNever : FS := fun _ => none
theorem vs_never : VS X P st sNever := PS.weak ps_never fun Dn σ H h => by
  obtain ⟨Bf, ow, en, k, o, hf, q⟩ := h
  cases hf
def sDrop (f : FE) : FS := fun en => match f en with
  | some (_, en1) => some (.nx en1)
  | none => none
theorem vs_expr (he : VE X P e fa) (hs : swapsWith e none pos.line X.env = pure false := by rfl) : VS X P (.Expr e pos) (sDrop fa) := PS.weak (ps_expr he hs) fun Dn σ H h => by
  obtain ⟨Bf, ow, en, k, o, hf, q⟩ := h
  unfold sDrop at hf
  split at hf <;> first | cases hf | skip
  rename_i d en1 h1
  exact ⟨Bf, ow, en, k, _, _, h1, fun v ow1 H1 k1 r1 p1 => q ow1 σ H1 k1 r1.s⟩
def sRet (f : FE) : FS := fun en => match f en with
  | some (d, en1) => some (.rt d en1)
  | none => none
theorem vs_ret (he : VE X P e fa) : VS X P (.Return (some e) pos) (sRet fa) := PS.weak (ps_ret he) fun Dn σ H h => by
  obtain ⟨Bf, ow, en, k, o, hf, q⟩ := h
  unfold sRet at hf
  split at hf <;> first | cases hf | skip
  rename_i d en1 h1
  exact ⟨Bf, ow, en, k, _, _, h1, fun v ow1 H1 k1 r1 p1 => q ow1 σ H1 v k1 r1.s p1⟩
def sRetN : FS := fun en => some (.rt .none en)
theorem vs_retN : VS X P (.Return none pos) sRetN := PS.weak ps_retN fun Dn σ H h => by
  obtain ⟨Bf, ow, en, k, o, hf, q⟩ := h
  cases hf
  exact q ow σ H .non k .refl .non
def sIf (t : FT) (f g : FS) : FS := fun en => match t en with
  | some (true, en1) => f en1
  | some (false, en1) => g en1
  | none => none
theorem vs_if (hc : VT X P c ta) (ha : VB X P as f) (hb : VB X P bs g) : VS X P (.If c as bs pos) (sIf ta f g) := PS.weak (ps_if hc ha hb) fun Dn σ H h => by
  obtain ⟨Bf, ow, en, k, o, hf, q⟩ := h
  unfold sIf at hf
  split at hf
  · rename_i en1 h1
    exact ⟨Bf, ow, en, k, _, _, h1, fun ow1 H1 k1 r1 => ⟨Bf, ow1, en1, k1, o, hf, q.trans r1.s⟩⟩
  · rename_i en1 h1
    exact ⟨Bf, ow, en, k, _, _, h1, fun ow1 H1 k1 r1 => ⟨Bf, ow1, en1, k1, o, hf, q.trans r1.s⟩⟩
  · cases hf

/-! ### stores -/
variable {ow : Nat → Option Addr} {en : En} {σ : L2.St} {H : Hp} {Bf : Bk}
def sSet (i : Nat) (f : FE) : FS := fun en => match f en with
  | some (d, en1) => some (.nx (en1.set i (.va d)))
  | none => none
theorem vs_set {i : Nat} {x : Str} {pos' : Pos} (hN : X.N.Nodup) (hi : X.N[i]? = some x) (hx : Loc X.env.scope x := by first | exact .inl rfl | exact .inr rfl) (hP : i ∉ P) (he : VE X P e fa) (hs : swapsWith e (some (.Name x pos')) pos.line X.env = pure false := by rfl)
    (hf : X.fn x = true ∨ X.env.scope.names.lookup x = some .local := by first | exact .inl rfl | exact .inr rfl | assumption) : VS X P (.Assign [.Name x pos'] e pos) (sSet i fa) :=
  PS.weak (ps_set hN hi hx he hs hf) fun Dn σ H h => by
    obtain ⟨Bf, ow, en, k, o, hf, q⟩ := h
    unfold sSet at hf
    split at hf <;> first | cases hf | skip
    rename_i d en1 h1
    refine ⟨Bf, ow, en, k, _, _, h1, fun v ow1 H1 k1 r1 p1 => ?_⟩
    have p2 := p1.move (H' := H1) (B' := blk Bf (dropOw ow1 i)) fun b o e t n => ⟨e, fun z => n (dropOw_blk z)⟩
    exact q _ _ _ (k1.set hP p2) (r1.trans (dropOw_rel hP)).s

/-! ### targets -/
theorem wipe_set {x : Option V} {i : Nat} : ∀ (vs : List Nat) (σ : L2.St), wipe (σ.set i x) vs = if i ∈ vs then wipe σ vs else (wipe σ vs).set i x
  | [], σ => by simp [wipe]
  | v :: vs, σ => by
    unfold wipe
    rw [wipe_set vs σ]
    by_cases hv : i = v
    · subst hv
      by_cases h : i ∈ vs
      · simp [h]
      · simp [h, List.set_set]
    · by_cases h : i ∈ vs
      · simp [h]
      · simp [h, hv]
        exact List.set_comm _ _ hv
def Wp (ts : List Nat) (σ σ' : L2.St) : Prop := ∀ vs : List Nat, (∀ i ∈ ts, i ∈ vs) → wipe σ' vs = wipe σ vs
abbrev FG := D → En → Option En
def tvG (P : Pl) (ts : List Nat) (g : FG) : TG := fun v σ H Q => ∃ Bf ow en d, Ok P Bf ow en σ H ∧ Rp H (blk Bf ow) d v ∧ ∃ en', g d en = some en' ∧ ∀ ow' σ', Ok P Bf ow' en' σ' H → Rel P H ow H ow' → Wp ts σ σ' → Q σ' H
def VG (X : Cx) (P : Pl) (t : Expr) (ts : List Nat) (g : FG) : Prop := PG X t (tvG P ts g)
theorem PG.weak {X : Cx} {e : Expr} {t t' : TG} (h : PG X e t) (w : ∀ v σ H Q, t' v σ H Q → t v σ H Q) : PG X e t' :=
  ⟨fun pins s σ H v u Q I r q => h.run pins s σ H v u Q I r (w v σ H Q q)⟩
theorem PGs.weak {X : Cx} {e : List Expr} {t t' : TGs} (h : PGs X e t) (w : ∀ v σ H Q, t' v σ H Q → t v σ H Q) : PGs X e t' :=
  ⟨fun pins s σ H v u Q I r q => h.run pins s σ H v u Q I r (w v σ H Q q)⟩
def gNm (i : Nat) : FG := fun d en => some (en.set i (.va d))
theorem vg_name {i : Nat} {x : Str} (hN : X.N.Nodup) (hi : X.N[i]? = some x) (hx : Loc X.env.scope x := by first | exact .inl rfl | exact .inr rfl) (hP : i ∉ P) (hf : X.fn x = true ∨ X.env.scope.names.lookup x = some .local := by first | exact .inl rfl | exact .inr rfl | assumption) : VG X P (.Name x pos) [i] (gNm i) :=
  PG.weak (pg_name hN hi hx hf) fun v σ H Q h => by
    obtain ⟨Bf, ow, en, d, k, p, en', hg, q⟩ := h
    cases hg
    have p2 := p.move (H' := H) (B' := blk Bf (dropOw ow i)) fun b o e t n => ⟨e, fun z => n (dropOw_blk z)⟩
    exact q _ _ (k.set hP p2) (dropOw_rel hP) fun vs hv => by rw [wipe_set, if_pos (hv i (by simp))]
abbrev FGs := List D → En → Option En
def tvGs (P : Pl) (ts : List Nat) (g : FGs) : TGs := fun vs σ H Q => ∃ Bf ow en ds, Ok P Bf ow en σ H ∧ RpL H (blk Bf ow) ds vs ∧ ∃ en', g ds en = some en' ∧ ∀ ow' σ', Ok P Bf ow' en' σ' H → Rel P H ow H ow' → Wp ts σ σ' → Q σ' H
def VGs (X : Cx) (P : Pl) (t : List Expr) (ts : List Nat) (g : FGs) : Prop := PGs X t (tvGs P ts g)
def gsNil : FGs := fun ds en => match ds with
  | [] => some en
  | _ => none
def gsCons (g : FG) (h : FGs) : FGs := fun ds en => match ds with
  | d :: r => match g d en with
    | some en1 => h r en1
    | none => none
  | [] => none
theorem vgs_nil : VGs X P [] [] gsNil := PGs.weak pgs_nil fun v σ H Q h => by
  obtain ⟨Bf, ow, en, ds, k, p, en', hg, q⟩ := h
  unfold gsNil at hg
  split at hg <;> first | cases hg | skip
  cases p
  exact ⟨rfl, q _ _ k .refl fun _ _ => rfl⟩
theorem vgs_cons {es : List Expr} {g1 : FG} {g2 : FGs} {t1 t2 : List Nat} (h1 : VG X P e t1 g1) (h2 : VGs X P es t2 g2) (hs : (assignEach (e :: es) X.env).map (·.2) = assign e X.env :: (assignEach es X.env).map (·.2) := by rfl) : VGs X P (e :: es) (t1 ++ t2) (gsCons g1 g2) :=
  PGs.weak (pgs_cons h1 h2 hs) fun v σ H Q h => by
    obtain ⟨Bf, ow, en, ds, k, p, en', hg, q⟩ := h
    unfold gsCons at hg
    split at hg <;> first | cases hg | skip
    rename_i d r
    split at hg <;> first | cases hg | skip
    rename_i en1 h1
    cases p with
    | cons p ps =>
      exact ⟨_, _, rfl, Bf, ow, en, d, k, p, en1, h1, fun ow1 σ1 k1 r1 w1 => ⟨Bf, ow1, en1, r, k1, r1.rpl ps, en', hg, fun ow2 σ2 k2 r2 w2 => q ow2 σ2 k2 (r1.trans r2) fun vs hv =>
        (w2 vs fun i hi => hv i (List.mem_append_right _ hi)).trans (w1 vs fun i hi => hv i (List.mem_append_left _ hi))⟩⟩
def gTp (n : Nat) (g : FGs) : FG := fun d en => match d with
  | .tuple ds => if ds.length = n then g ds en else none
  | _ => none
theorem vg_tup {es : List Expr} {k : Nat} {g : FGs} {n : Nat} {ts : List Nat} (hc : X.calm = true) (h : VGs X P es ts g) (hn : (assignEach es X.env).length = n := by rfl) (hst : (assignEach es X.env).findIdx? (·.1) = none := by rfl) : VG X P (.Tuple es k pos) ts (gTp n g) :=
  PG.weak (pg_tup hc h hn hst) fun v σ H Q h => by
    obtain ⟨Bf, ow, en, d, k, p, en', hg, q⟩ := h
    unfold gTp at hg
    split at hg <;> first | cases hg | skip
    split at hg <;> first | cases hg | skip
    rename_i hl
    cases p with
    | tup nb r rs => exact ⟨_, _, rfl, SqT.of r, by rw [← rs.length]; exact hl, Bf, ow, en, _, k, rs, en', hg, q⟩
def sAsg (f : FE) (g : FG) : FS := fun en => match f en with
  | some (d, en1) => match g d en1 with
    | some en2 => some (.nx en2)
    | none => none
  | none => none
theorem vs_asg {tg : Expr} {g : FG} {ts : List Nat} (he : VE X P e fa) (hg : VG X P tg ts g) (hs : swapsWithSole [tg] e pos.line X.env = pure false := by rfl) (hw : swappedStores [tg] e X.env = pure none := by rfl)
    (h1 : (assignEach [tg] X.env).map (·.2) = [assign tg X.env] := by rfl) : VS X P (.Assign [tg] e pos) (sAsg fa g) := PS.weak (ps_asg he hg hs hw h1) fun Dn σ H h => by
  obtain ⟨Bf, ow, en, k, o, hf, q⟩ := h
  unfold sAsg at hf
  split at hf <;> first | cases hf | skip
  rename_i d en1 h1
  split at hf <;> first | cases hf | skip
  rename_i en2 h2
  exact ⟨Bf, ow, en, k, _, _, h1, fun v ow1 H1 k1 r1 p1 => ⟨Bf, ow1, en1, d, k1, p1, en2, h2, fun ow2 σ2 k2 r2 _ => q _ _ _ k2 (r1.trans r2).s⟩⟩
end
end VL

namespace VL
open PySem PySem.Spec
open PyProof.Rows L2

/-! ### new lists -/
section
variable {P : Pl} {Bf : Bk} {ow ow' ow1 : Nat → Option Addr} {en en' : En} {σ σ' : L2.St} {H H' H1 : Hp} {p : Addr} {ds : List D} {xs : List V} {d : D} {v : V}
theorem insB_blk {b : Addr} (z : blk (insB Bf p) ow b) : blk Bf ow b ∨ b = p := by
  rcases z with (z | z) | z
  · exact .inl (.inl z)
  · exact .inr z
  · exact .inl (.inr z)
theorem blk_insB {b : Addr} (z : blk Bf ow b) : blk (insB Bf p) ow b := by
  rcases z with z | z
  · exact .inl (.inl z)
  · exact .inr z
/-- what is reached in H does not reach a new address -/
theorem Rp.avoid (hp : H p = none) (k : Ext H H') (r : Rp H (blk Bf ow) d v) : Rp H' (blk (insB Bf p) ow) d v := r.move fun b o e t n => ⟨k b o e, fun z => by
  rcases insB_blk z with z | z
  · exact n z
  · subst z
    rw [hp] at e
    cases e⟩
theorem RpL.avoid (hp : H p = none) (k : Ext H H') (r : RpL H (blk Bf ow) ds xs) : RpL H' (blk (insB Bf p) ow) ds xs := r.move fun b o e t n => ⟨k b o e, fun z => by
  rcases insB_blk z with z | z
  · exact n z
  · subst z
    rw [hp] at e
    cases e⟩
theorem insB_blkN {b : Addr} (z : blkN (insB Bf p) ow b) : blkN Bf ow b ∨ b = p := by
  rcases z with z | z
  · exact (insB_blk z).elim (fun z => .inl (.inl z)) .inr
  · exact .inl (.inr z)
theorem blkN_insB {b : Addr} (z : blkN Bf ow b) : blkN (insB Bf p) ow b := z.elim (fun z => .inl (blk_insB z)) .inr
theorem Rx.avoidN (hp : H p = none) (k : Ext H H') (r : Rx H (blkN Bf ow) d v) : Rx H' (blkN (insB Bf p) ow) d v := r.move fun b o e t n => ⟨k b o e, fun z => by
  rcases insB_blkN z with z | z
  · exact n z
  · subst z
    rw [hp] at e
    cases e⟩
theorem RpL.unins (r : RpL H (blk (insB Bf p) ow) ds xs) : RpL H (blk Bf ow) ds xs := r.move fun b o e t n => ⟨e, fun z => n (blk_insB z)⟩
theorem Rp.unins (r : Rp H (blk (insB Bf p) ow) d v) : Rp H (blk Bf ow) d v := r.move fun b o e t n => ⟨e, fun z => n (blk_insB z)⟩
theorem Ok.avoid (k : Ok P Bf ow en σ H) (hp : H p = none) {o : HO} : Ok P (insB Bf p) ow en σ (upd H p o) where
  hlen := k.hlen
  hva := fun i d e => let ⟨v, h1, h2⟩ := k.hva i d e; ⟨v, h1, h2.avoid hp (.upd hp)⟩
  hvn := fun i d e => let ⟨v, h1, h2⟩ := k.hvn i d e; ⟨v, h1, h2.avoidN hp (.upd hp)⟩
  hob := fun i s e f => let ⟨x, h1, h2, h3⟩ := k.hob i s e f; ⟨x, h1, h2, h3.move (fun o e _ => Ext.upd hp _ _ e) fun b o e t n => ⟨Ext.upd hp b o e, fun z => by
    rcases insB_blk z with z | z
    · exact n z
    · subst z
      rw [hp] at e
      cases e⟩⟩
  hdom := k.hdom
  hinj := k.hinj
  hbf := fun b h => by
    rcases h with h | h
    · exact (Ext.upd (o := o) hp).some b (k.hbf b h)
    · subst h
      rw [upd_same]
      exact fun z => nomatch z
  hod := fun b h => (Ext.upd (o := o) hp).some b (k.hod b h)
  hloc := fun i a e hi => by
    obtain ⟨h1, h2⟩ := k.hloc i a e hi
    refine ⟨fun z => ?_, h2⟩
    rcases z with z | z
    · exact h1 z
    · subst z
      obtain ⟨_, _, _, _, h3⟩ := k.hat e
      exact h3.ne hp
  htab := k.htab.ext (Ext.upd hp)
theorem Ok.unins (k : Ok P (insB Bf p) ow en σ H) : Ok P Bf ow en σ H where
  hlen := k.hlen
  hva := fun i d e => let ⟨v, h1, h2⟩ := k.hva i d e; ⟨v, h1, h2.unins⟩
  hvn := fun i d e => let ⟨v, h1, h2⟩ := k.hvn i d e; ⟨v, h1, h2.move fun b o e t n => ⟨e, fun z => n (blkN_insB z)⟩⟩
  hob := fun i s e f => let ⟨x, h1, h2, h3⟩ := k.hob i s e f; ⟨x, h1, h2, h3.move (fun o e _ => e) fun b o e t n => ⟨e, fun z => n (blk_insB z)⟩⟩
  hdom := k.hdom
  hinj := k.hinj
  hbf := fun b h => k.hbf b (.inl h)
  hod := k.hod
  hloc := fun i a e hi => ⟨fun z => (k.hloc i a e hi).1 (.inl z), (k.hloc i a e hi).2⟩
  htab := k.htab
def putOw (ow : Nat → Option Addr) (i : Nat) (p : Addr) : Nat → Option Addr := fun j => if j = i then some p else ow j
theorem putOw_blk {i : Nat} {b : Addr} (z : blk Bf (putOw ow i p) b) : blk (insB Bf p) ow b := by
  rcases z with z | ⟨j, z⟩
  · exact .inl (.inl z)
  · unfold putOw at z
    split at z
    · cases z
      exact .inl (.inr rfl)
    · exact .inr ⟨j, z⟩
/-- a slot gets an object of its own -/
theorem Ok.putO (k : Ok P (insB Bf p) ow en σ H) {i : Nat} {sl : Sl} (ho : isOwn sl = true) (hi : i ∉ P) (hl : i < en.length) (nb : ¬ Bf.bl p) (no : ¬ Bf.od p) (nw : ∀ j, ow j ≠ some p) (hp : OwnAt H (blk (insB Bf p) ow) p sl) :
    Ok P Bf (putOw ow i p) (en.set i sl) (σ.set i (some (.ref p))) H := by
  have mv : ∀ b o, H b = some o → NT o → ¬ blk (insB Bf p) ow b → H b = some o ∧ ¬ blk Bf (putOw ow i p) b := fun b o e t n => ⟨e, fun z => n (putOw_blk z)⟩
  have mvN : ∀ b o, H b = some o → NT o → ¬ blkN (insB Bf p) ow b → H b = some o ∧ ¬ blkN Bf (putOw ow i p) b := fun b o e t n => ⟨e, fun z => n (z.elim (fun z => .inl (putOw_blk z)) .inr)⟩
  refine ⟨by simp [k.hlen], fun j d' e => ?_, fun j d' e => ?_, fun j s' e f => ?_, fun j a e => ?_, fun j l a e1 e2 => ?_, fun b h => k.hbf b (.inl h), k.hod, fun j a e hj => ?_, k.htab⟩
  · by_cases hj : j = i
    · subst hj
      rw [List.getElem?_set_self hl] at e
      cases e
      cases ho
    · rw [List.getElem?_set_ne (Ne.symm hj)] at e ⊢
      obtain ⟨w, h1, h2⟩ := k.hva j d' e
      exact ⟨w, h1, h2.move mv⟩
  · by_cases hj : j = i
    · subst hj
      rw [List.getElem?_set_self hl] at e
      cases e
      cases ho
    · rw [List.getElem?_set_ne (Ne.symm hj)] at e ⊢
      obtain ⟨w, h1, h2⟩ := k.hvn j d' e
      exact ⟨w, h1, h2.move mvN⟩
  · by_cases hj : j = i
    · subst hj
      rw [List.getElem?_set_self hl] at e
      cases e
      exact ⟨p, by unfold putOw; rw [if_pos rfl], by rw [List.getElem?_set_self (by rw [k.hlen]; exact hl)], hp.move (fun o e _ => e) mv⟩
    · rw [List.getElem?_set_ne (Ne.symm hj)] at e ⊢
      obtain ⟨a, h1, h2, h3⟩ := k.hob j s' e f
      exact ⟨a, by unfold putOw; rw [if_neg hj]; exact h1, h2, h3.move (fun o e _ => e) mv⟩
  · unfold putOw at e
    split at e
    · rename_i hj
      subst hj
      exact ⟨sl, by rw [List.getElem?_set_self hl], ho⟩
    · rename_i hj
      rw [List.getElem?_set_ne (Ne.symm hj)]
      exact k.hdom j a e
  · unfold putOw at e1 e2
    split at e1
    · rename_i hj
      split at e2
      · rename_i hl'
        exact hj.trans hl'.symm
      · cases e1
        exact absurd e2 (nw l)
    · split at e2
      · cases e2
        exact absurd e1 (nw j)
      · exact k.hinj j l a e1 e2
  · unfold putOw at e
    split at e
    · cases e
      exact ⟨nb, no⟩
    · exact ⟨fun z => (k.hloc j a e hj).1 (.inl z), (k.hloc j a e hj).2⟩
/-- a slot gets a list of its own -/
theorem Ok.put (k : Ok P (insB Bf p) ow en σ H) {i : Nat} (hi : i ∉ P) (hl : i < en.length) (nb : ¬ Bf.bl p) (no : ¬ Bf.od p) (nw : ∀ j, ow j ≠ some p) (hp : H p = some (.lst xs)) (r : RpL H (blk (insB Bf p) ow) ds xs) :
    Ok P Bf (putOw ow i p) (en.set i (.ow ds)) (σ.set i (some (.ref p))) H := k.putO rfl hi hl nb no nw ⟨xs, hp, r⟩
/-- the tables stay good where something else is written -/
theorem tabs_upd {T : List (Addr × Str)} {H : Hp} {a : Addr} {o0 o' : HO} (t : LamX.Tabs T H) (h0 : H a = some o0) (nt : NT o0) (ne : ∀ φ, o0 ≠ .ext φ) : LamX.Tabs T (upd H a o') := fun q hq => by
  obtain ⟨ps, t1, t2, t3⟩ := t q hq
  have n1 : q.1 ≠ a := fun z => by
    rw [z, h0] at t1
    exact nt ps (Option.some.inj t1)
  refine ⟨ps, by rw [upd_ne n1]; exact t1, t2, fun pos cv hc => ?_⟩
  obtain ⟨c, e1, e2⟩ := t3 pos cv hc
  refine ⟨c, e1, ?_⟩
  rw [upd_ne fun z => by
    rw [z, h0] at e2
    exact ne _ (Option.some.inj e2)]
  exact e2
/-- an object of one's own is written -/
theorem Ok.wrO (k : Ok P Bf ow en σ H) {i : Nat} {a : Addr} {sl : Sl} {o' : HO} (e : ow i = some a) (ho : isOwn sl = true) (nt : NT o') (r : OwnAt (upd H a o') (blk Bf ow) a sl) : Ok P Bf ow (en.set i sl) σ (upd H a o') ∧ Rel P H ow (upd H a o') ow := by
  have ha : blk Bf ow a := .inr ⟨i, e⟩
  have mv : ∀ b o, H b = some o → NT o → ¬ blk Bf ow b → upd H a o' b = some o ∧ ¬ blk Bf ow b := fun b o h t n => ⟨by rw [upd_ne fun z => n (by rw [z]; exact ha)]; exact h, n⟩
  have sm : ∀ b, H b ≠ none → upd H a o' b ≠ none := fun b h => by
    by_cases hb : b = a
    · rw [hb, upd_same]
      exact fun z => nomatch z
    · rw [upd_ne hb]
      exact h
  obtain ⟨s0, e0, f0, g2, g3⟩ := k.hat e
  obtain ⟨o0, h0, n0, x0⟩ := g3.obj
  have hl : i < en.length := (List.getElem?_eq_some_iff.mp e0).1
  have mvN : ∀ b o, H b = some o → NT o → ¬ blkN Bf ow b → upd H a o' b = some o ∧ ¬ blkN Bf ow b := fun b o h t n => ⟨(mv b o h t fun z => n (.inl z)).1, n⟩
  refine ⟨⟨by simp [k.hlen], fun j d' e' => ?_, fun j d' e' => ?_, fun j s' e' f => ?_, fun j b e' => ?_, k.hinj, fun b h => sm b (k.hbf b h), fun b h => sm b (k.hod b h), k.hloc, tabs_upd k.htab h0 n0 x0⟩, fun b o h t n => ⟨by rw [upd_ne fun z => n i (by rw [z]; exact e)]; exact h, n⟩, sm, fun _ _ => rfl, fun _ _ z => z⟩
  · by_cases hj : j = i
    · subst hj
      rw [List.getElem?_set_self hl] at e'
      cases e'
      cases ho
    · rw [List.getElem?_set_ne (Ne.symm hj)] at e'
      obtain ⟨w, h1, h2⟩ := k.hva j d' e'
      exact ⟨w, h1, h2.move mv⟩
  · by_cases hj : j = i
    · subst hj
      rw [List.getElem?_set_self hl] at e'
      cases e'
      cases ho
    · rw [List.getElem?_set_ne (Ne.symm hj)] at e'
      obtain ⟨w, h1, h2⟩ := k.hvn j d' e'
      exact ⟨w, h1, h2.move mvN⟩
  · by_cases hj : j = i
    · subst hj
      rw [List.getElem?_set_self hl] at e'
      cases e'
      exact ⟨a, e, g2, r⟩
    · rw [List.getElem?_set_ne (Ne.symm hj)] at e'
      obtain ⟨b, h1, h2, h3⟩ := k.hob j s' e' f
      have nb : b ≠ a := fun z => hj (k.hinj j i a (by rw [← z]; exact h1) e)
      exact ⟨b, h1, h2, h3.move (fun o e _ => by rw [upd_ne nb]; exact e) mv⟩
  · by_cases hj : j = i
    · subst hj
      exact ⟨sl, List.getElem?_set_self hl, ho⟩
    · rw [List.getElem?_set_ne (Ne.symm hj)]
      exact k.hdom j b e'
/-- a list of one's own is written -/
theorem Ok.wr (k : Ok P Bf ow en σ H) {i : Nat} {a : Addr} (e : ow i = some a) (r : RpL H (blk Bf ow) ds xs) : Ok P Bf ow (en.set i (.ow ds)) σ (upd H a (.lst xs)) ∧ Rel P H ow (upd H a (.lst xs)) ow :=
  k.wrO e rfl (fun _ z => nomatch z) ⟨xs, upd_same, r.move fun b o h t n => ⟨by rw [upd_ne fun z => n (by rw [z]; exact .inr ⟨i, e⟩)]; exact h, n⟩⟩
end

section
variable {X : Cx} {P : Pl} {a b e : Expr} {es : List Expr} {fa fb : FE} {ga : FA} {pos apos cpos : Pos}
/-! ### expressions that give a new list -/
abbrev FL := En → Option (List D × En)
def tvF (P : Pl) (f : FL) : TE := fun σ H Q => ∃ Bf ow en, Ok P Bf ow en σ H ∧ ∃ ds en', f en = some (ds, en') ∧
  ∀ p xs ow' H', Ok P (insB Bf p) ow' en' σ H' → Rel P H ow H' ow' → ¬ Bf.bl p → ¬ Bf.od p → (∀ i, ow' i ≠ some p) → H p = none → H' p = some (.lst xs) → RpL H' (blk (insB Bf p) ow') ds xs → Q (.ref p) H'
def VF (X : Cx) (P : Pl) (e : Expr) (f : FL) : Prop := PE X e (tvF P f)
def eNew (f : FL) : FE := fun en => match f en with
  | some (ds, en1) => some (.list ds, en1)
  | none => none
theorem new_nb {Bf : Bk} {ow : Nat → Option Addr} {p : Addr} (h1 : ¬ Bf.bl p) (h2 : ∀ i, ow i ≠ some p) : ¬ blk Bf ow p := fun z => z.elim h1 fun ⟨i, z⟩ => h2 i z
theorem ve_new {f : FL} (h : VF X P e f) : VE X P e (eNew f) := PE.weak h fun σ H Q h => by
  obtain ⟨Bf, ow, en, k, d, en', hf, q⟩ := h
  unfold eNew at hf
  split at hf <;> first | cases hf | skip
  rename_i ds en1 h1
  exact ⟨Bf, ow, en, k, _, _, h1, fun p xs ow1 H1 k1 r1 b1 b2 b3 b4 hp rs => q _ ow1 H1 k1.unins r1 (.lst (new_nb b1 b3) (.inl hp) rs.unins)⟩
/-- at a new address, over what stands -/
theorem fresh_of {Bf : Bk} {ow ow1 : Nat → Option Addr} {en1 : En} {σ : L2.St} {H H1 : Hp} {p : Addr} {ds : List D} {xs : List V} {f : V → Hp → Prop} (k : Ok P Bf ow1 en1 σ H1) (r : Rel P H ow H1 ow1) (hp : H1 p = none) (rs : RpL H1 (blk Bf ow1) ds xs)
    (q : ∀ p xs ow' H', Ok P (insB Bf p) ow' en1 σ H' → Rel P H ow H' ow' → ¬ Bf.bl p → ¬ Bf.od p → (∀ i, ow' i ≠ some p) → H p = none → H' p = some (.lst xs) → RpL H' (blk (insB Bf p) ow') ds xs → f (.ref p) H') : f (.ref p) (upd H1 p (.lst xs)) := by
  have np := k.nb hp
  have h0 : H p = none := by
    cases e : H p with
    | none => rfl
    | some o => exact absurd hp (r.hsome p (by rw [e]; exact fun z => nomatch z))
  exact q p xs ow1 _ (k.avoid hp) (r.trans (Ext.upd hp).rel) (fun z => np (.inl z)) (fun z => k.hod p z hp) (fun i z => np (.inr ⟨i, z⟩)) h0 upd_same (rs.avoid hp (.upd hp))
def lLst (f : FA) : FL := fun en => match f en with
  | some (ds, en1) => if ds.length ≤ sizeLine then some (ds, en1) else none
  | none => none
theorem vf_lst (h : VA X P es ga) : VF X P (.List es pos) (lLst ga) := PE.weak (pe_lst h) fun σ H Q h => by
  obtain ⟨Bf, ow, en, k, d, en', hf, q⟩ := h
  unfold lLst at hf
  split at hf <;> first | cases hf | skip
  rename_i ds en1 h1
  split at hf <;> first | cases hf | skip
  rename_i hz
  exact ⟨Bf, ow, en, k, _, _, h1, fun vs ow1 H1 k1 r1 p1 => ⟨by rw [← p1.length]; exact hz, fun p hp => fresh_of (f := Q) k1 r1 hp p1 q⟩⟩
/-- a call of a built-in that gives a new list -/
def CaL (r : List V → Hp → VK → Prop) (g : List D → Option (List D)) : Prop := ∀ (H : Hp) (B : Addr → Prop) (ds es : List D) (vs : List V) (Q : VK), g ds = some es → RpL H B ds vs →
  (∀ p xs, H p = none → RpL H B es xs → Q (.ref p) (upd H p (.lst xs))) → r vs H Q
def lCall (g : List D → Option (List D)) (f : FA) : FL := fun en => match f en with
  | some (ds, en1) => match g ds with
    | some d => some (d, en1)
    | none => none
  | none => none
theorem tvF_call {r : List V → Hp → VK → Prop} {g : List D → Option (List D)} (hg : CaL r g) (σ : L2.St) (H : Hp) (Q : VK) (h : tvF P (lCall g ga) σ H Q) : tCB r (tvA P ga) σ H Q := by
  obtain ⟨Bf, ow, en, k, d, en', hf, q⟩ := h
  unfold lCall at hf
  split at hf <;> first | cases hf | skip
  rename_i ds en1 h1
  split at hf <;> first | cases hf | skip
  rename_i d' h2
  exact ⟨Bf, ow, en, k, _, _, h1, fun vs ow1 H1 k1 r1 p1 => hg H1 (blk Bf ow1) ds _ vs Q h2 p1 fun p xs hp rs => fresh_of (f := Q) k1 r1 hp rs q⟩
theorem vf_callB {id : String} {x : Str} {p : Pos} {r : List V → Hp → VK → Prop} {g : List D → Option (List D)} (hc : CallR X (.builtin id) r) (hgv : CaL r g) (hg : Gl X x) (hm : X.mg x = none) (hv : bootBuiltins x = some (.builtin id)) (ha : VA X P (e :: es) ga)
    (hn : x ≠ "__name__" := by decide) (hdb : (x == ("__debug__" : Str)) = false := by decide)
    (he : starEach (e :: es) X.env = (false, eval e X.env) :: starEach es X.env := by rfl) (hpl : (backTo pos (starEach es X.env)).any (·.1) = false := by rfl) : VF X P (.Call (.Name x p) (e :: es) [] pos) (lCall g ga) :=
  PE.weak (pe_callB hc hg hm hv ha hn hdb he hpl) (tvF_call hgv)
theorem vf_callTy {T : String} {x : Str} {p : Pos} {r : List V → Hp → VK → Prop} {g : List D → Option (List D)} (hc : CallR X (.type T) r) (hgv : CaL r g) (hg : Gl X x) (hm : X.mg x = none) (hv : bootBuiltins x = some (.type T)) (ha : VA X P (e :: es) ga)
    (hn : x ≠ "__name__" := by decide) (hdb : (x == ("__debug__" : Str)) = false := by decide)
    (he : starEach (e :: es) X.env = (false, eval e X.env) :: starEach es X.env := by rfl) (hpl : (backTo pos (starEach es X.env)).any (·.1) = false := by rfl) : VF X P (.Call (.Name x p) (e :: es) [] pos) (lCall g ga) :=
  PE.weak (pe_callTy hc hg hm hv ha hn hdb he hpl) (tvF_call hgv)

/-! ### a slot gets a new list of its own -/
def sOwn (i : Nat) (f : FL) : FS := fun en => match f en with
  | some (ds, en1) => if i < en1.length then some (.nx (en1.set i (.ow ds))) else none
  | none => none
theorem put_rel {ow ow1 : Nat → Option Addr} {H H1 : Hp} {p : Addr} {i : Nat} (hP : i ∉ P) (r : Rel P H ow H1 ow1) (hp : H p = none) : RelS P H ow H1 (putOw ow1 i p) :=
  ⟨fun b o e t n => ⟨(r.hkeep b o e t n).1, fun j z => by
    unfold putOw at z
    split at z
    · cases z
      rw [hp] at e
      cases e
    · exact (r.hkeep b o e t n).2 j z⟩, r.hsome, fun j hj => by
      unfold putOw
      rw [if_neg fun z => hP (by rw [← z]; exact hj)]
      exact r.hpin j hj⟩
theorem vs_own {f : FL} {i : Nat} {x : Str} {pos' : Pos} (hN : X.N.Nodup) (hi : X.N[i]? = some x) (hx : Loc X.env.scope x := by first | exact .inl rfl | exact .inr rfl) (hP : i ∉ P) (he : VF X P e f) (hs : swapsWith e (some (.Name x pos')) pos.line X.env = pure false := by rfl)
    (hf : X.fn x = true ∨ X.env.scope.names.lookup x = some .local := by first | exact .inl rfl | exact .inr rfl | assumption) : VS X P (.Assign [.Name x pos'] e pos) (sOwn i f) :=
  PS.weak (ps_set hN hi hx he hs hf) fun Dn σ H h => by
    obtain ⟨Bf, ow, en, k, o, hf, q⟩ := h
    unfold sOwn at hf
    split at hf <;> first | cases hf | skip
    rename_i ds en1 h1
    split at hf <;> first | cases hf | skip
    rename_i hl
    exact ⟨Bf, ow, en, k, _, _, h1, fun p xs ow1 H1 k1 r1 b1 b2 b3 b4 hp rs => q _ _ _ (k1.put hP hl b1 b2 b3 hp rs) (put_rel hP r1 b4)⟩

/-! ### a list of one's own: append, store, item, length -/
def isOw : Option Sl → Bool
  | some (.ow _) => true
  | _ => false
theorem isOw_of {o : Option Sl} (h : isOw o = true) : ∃ ds, o = some (.ow ds) := by
  unfold isOw at h
  split at h
  · exact ⟨_, rfl⟩
  · cases h
def sApp (i : Nat) (f : FE) : FS := fun en => if isOw en[i]? then (match f en with
  | some (d, en1) => match en1[i]? with
    | some (.ow ds) => if ds.length < sizeLine then some (.nx (en1.set i (.ow (ds ++ [d])))) else none
    | _ => none
  | none => none) else none
/-- a slot whose list is one's own behind an expression was one's own ahead, at the same address -/
theorem own_back {Bf : Bk} {ow ow1 : Nat → Option Addr} {en en1 : En} {σ σ1 : L2.St} {H H1 : Hp} {i : Nat} {ds1 : List D} (k : Ok P Bf ow en σ H) (k1 : Ok P Bf ow1 en1 σ1 H1) (r : Rel P H ow H1 ow1) (e : en1[i]? = some (.ow ds1)) :
    ∃ a xs1, ow i = some a ∧ ow1 i = some a ∧ H1 a = some (.lst xs1) ∧ RpL H1 (blk Bf ow1) ds1 xs1 := by
  obtain ⟨a, xs1, h1, h2, h3, h4⟩ := k1.hown i ds1 e
  exact ⟨a, xs1, r.hsub i a h1, h1, h3, h4⟩
theorem dc_back {Bf : Bk} {ow ow1 : Nat → Option Addr} {en en1 : En} {σ σ1 : L2.St} {H H1 : Hp} {i : Nat} {t1 : Bool} {ds1 : DKV} (k : Ok P Bf ow en σ H) (k1 : Ok P Bf ow1 en1 σ1 H1) (r : Rel P H ow H1 ow1) (e : en1[i]? = some (.dc t1 ds1)) :
    ∃ a, ow i = some a ∧ ow1 i = some a ∧ DcAt H1 (blk Bf ow1) a t1 ds1 := by
  obtain ⟨a, h1, h2, h3⟩ := k1.hdc i t1 ds1 e
  exact ⟨a, r.hsub i a h1, h1, h3⟩
theorem vs_append {i : Nat} {x : Str} {p' : Pos} (hN : X.N[i]? = some x) (hv : Vis X.env.scope x := by first | exact .inl rfl | exact .inr (.inl rfl) | exact .inr (.inr rfl)) (he : VE X P e fa)
    (hbase : attributeBase (.Name x p') "append" X.env (eval (.Name x p') X.env) = eval (.Name x p') X.env := by rfl)
    (hfew : ((backTo cpos (starEach [e] X.env)).all (fun x => !x.1) && (backToKw cpos (keywordEach [] X.env)).all (fun x => x.1.isSome)
      && decide ([e].length + ([] : List Keyword).length + (if ([] : List Keyword).isEmpty then 0 else 1) < 30)) = true := by rfl)
    (hline : (apos.endLine == cpos.line) = true := by rfl) (hst : starEach [e] X.env = (false, eval e X.env) :: starEach [] X.env := by rfl) (hplain : (backTo cpos (starEach [] X.env)).any (·.1) = false := by rfl)
    (hd : (x == ("__debug__" : Str)) = false := by decide) (hcd : (x == ("__classdict__" : Str)) = false := by decide)
    (hs : swapsWith (.Call (.Attribute (.Name x p') "append" apos) [e] [] cpos) none pos.line X.env = pure false := by rfl) :
    VS X P (.Expr (.Call (.Attribute (.Name x p') "append" apos) [e] [] cpos) pos) (sApp i fa) :=
  PS.weak (ps_expr (pe_bm PySem.F.plainAttrs_list PySem.F.slot_list_append PySem.F.type_list_append mt_append (pe_var hN hv hd hcd) (pa_cons he pa_nil hst) hbase hfew hline hst hplain) hs) fun Dn σ H h => by
    obtain ⟨Bf, ow, en, k, o, hf, q⟩ := h
    unfold sApp at hf
    split at hf <;> first | cases hf | skip
    rename_i h0
    obtain ⟨ds0, e0⟩ := isOw_of h0
    obtain ⟨a, xs0, g1, g2, g3, g4⟩ := k.hown i ds0 e0
    split at hf <;> first | cases hf | skip
    rename_i d en1 h1
    split at hf <;> first | cases hf | skip
    rename_i ds h2
    split at hf <;> first | cases hf | skip
    rename_i hz
    refine ⟨_, g2, .inl ⟨rfl, _, SqL.of g3⟩, Bf, ow, en, k, d, en1, h1, fun v ow1 H1 k1 r1 p1 => ?_⟩
    obtain ⟨a', xs1, w1, w2, w3, w4⟩ := own_back k k1 r1 h2
    rw [g1] at w1
    cases w1
    obtain ⟨k2, r2⟩ := k1.wr w2 (w4.append (.cons p1 .nil))
    exact ⟨a, xs1, v, rfl, rfl, w3, by rw [← w4.length]; exact hz, q _ _ _ k2 (r1.trans r2).s⟩
/-- x[i] = e -/
def sPut (i : Nat) (f g : FE) : FS := fun en => match f en with
  | some (d, en1) => if isOw en1[i]? then (match g en1 with
    | some (.int z, en2) => match en2[i]? with
      | some (.ow ds) => match ixN ds.length z with
        | some j => some (.nx (en2.set i (.ow (ds.set j d))))
        | none => none
      | _ => none
    | _ => none) else none
  | none => none
theorem vs_put {i : Nat} {x : Str} {p' : Pos} {ix : Expr} (hN : X.N[i]? = some x) (hv : Vis X.env.scope x := by first | exact .inl rfl | exact .inr (.inl rfl) | exact .inr (.inr rfl)) (hx : VE X P ix fb) (he : VE X P e fa)
    (ha : ∀ v, assign (.Subscript (.Name x p') ix apos) X.env v = (do
      let ov ← holding [v] (eval (.Name x p') X.env)
      let iv ← holding [v, ov] (eval ix X.env)
      standAt apos
      holding [v, ov, iv] (setItem ov iv v)
      release [v, ov, iv] []) := by intro _; rfl)
    (hs : swapsWithSole [.Subscript (.Name x p') ix apos] e pos.line X.env = pure false := by rfl) (hw : swappedStores [.Subscript (.Name x p') ix apos] e X.env = pure none := by rfl)
    (h1 : (assignEach [.Subscript (.Name x p') ix apos] X.env).map (·.2) = [assign (.Subscript (.Name x p') ix apos) X.env] := by rfl)
    (hd : (x == ("__debug__" : Str)) = false := by decide) (hcd : (x == ("__classdict__" : Str)) = false := by decide) :
    VS X P (.Assign [.Subscript (.Name x p') ix apos] e pos) (sPut i fa fb) :=
  PS.weak (ps_asg he (pg_sub (pe_var hN hv hd hcd) hx set_list ha) hs hw h1) fun Dn σ H h => by
    obtain ⟨Bf, ow, en, k, o, hf, q⟩ := h
    unfold sPut at hf
    split at hf <;> first | cases hf | skip
    rename_i d en1 h1
    split at hf <;> first | cases hf | skip
    rename_i h0
    obtain ⟨ds0, e0⟩ := isOw_of h0
    refine ⟨Bf, ow, en, k, d, en1, h1, fun v ow1 H1 k1 r1 p1 => ?_⟩
    obtain ⟨a, xs0, g1, g2, g3, g4⟩ := k1.hown i ds0 e0
    split at hf <;> first | cases hf | skip
    rename_i z en2 h2
    split at hf <;> first | cases hf | skip
    rename_i ds h3
    split at hf <;> first | cases hf | skip
    rename_i j hj
    refine ⟨_, g2, Bf, ow1, en1, k1, _, en2, h2, fun u ow2 H2 k2 r2 p2 => ?_⟩
    cases p2
    obtain ⟨a', xs1, w1, w2, w3, w4⟩ := own_back k1 k2 r2 h3
    rw [g1] at w1
    cases w1
    obtain ⟨k3, r3⟩ := k2.wr w2 (w4.set (r2.rp p1) j)
    exact ⟨a, xs1, z, j, rfl, rfl, w3, by rw [← w4.length]; exact hj, q _ _ _ k3 ((r1.trans r2).trans r3).s⟩
/-- x[i] -/
def eVarV (i : Nat) : FE := fun en => match en[i]? with
  | some (.va d) => some (d, en)
  | _ => none
def eGet (i : Nat) (g : FE) : FE := fun en => if isOw en[i]? then (match g en with
  | some (.int z, en1) => match en1[i]? with
    | some (.ow ds) => match atI ds z with
      | some d => some (d, en1)
      | none => none
    | _ => none
  | _ => none) else eOp gIx (eVarV i) g en
theorem ve_get {i : Nat} {x : Str} {p' : Pos} {ix : Expr} (hN : X.N[i]? = some x) (hv : Vis X.env.scope x := by first | exact .inl rfl | exact .inr (.inl rfl) | exact .inr (.inr rfl)) (hx : VE X P ix fb) (hs : PlainIx ix)
    (hd : (x == ("__debug__" : Str)) = false := by decide) (hcd : (x == ("__classdict__" : Str)) = false := by decide) : VE X P (.Subscript (.Name x p') ix pos) (eGet i fb) :=
  PE.weak (pe_ix ix_seq (pe_var hN hv hd hcd) hx hs) fun σ H Q h => by
    obtain ⟨Bf, ow, en, k, d, en', hf, q⟩ := h
    unfold eGet at hf
    split at hf
    · rename_i h0
      obtain ⟨ds0, e0⟩ := isOw_of h0
      obtain ⟨a, xs0, g1, g2, g3, g4⟩ := k.hown i ds0 e0
      split at hf <;> first | cases hf | skip
      rename_i z en1 h1
      split at hf <;> first | cases hf | skip
      rename_i ds h2
      split at hf <;> first | cases hf | skip
      rename_i d' h3
      refine ⟨_, g2, Bf, ow, en, k, _, _, h1, fun v ow1 H1 k1 r1 p1 => ?_⟩
      cases p1
      obtain ⟨a', xs1, w1, w2, w3, w4⟩ := own_back k k1 r1 h2
      rw [g1] at w1
      cases w1
      obtain ⟨v, w5, w6⟩ := w4.atI h3
      exact .inl ⟨a, xs1, z, v, rfl, rfl, SqL.of w3, w5, q v ow1 H1 k1 r1 w6⟩
    · unfold eOp eVarV at hf
      split at hf <;> first | cases hf | skip
      rename_i x1 en0 h1
      split at h1 <;> first | cases h1 | skip
      rename_i d0 e0
      split at hf <;> first | cases hf | skip
      rename_i y en2 h2
      split at hf <;> first | cases hf | skip
      rename_i z h3
      obtain ⟨v, g1, g2⟩ := k.hva i _ e0
      refine ⟨v, g1, Bf, ow, en, k, _, _, h2, fun v2 ow1 H1 k1 r1 p1 => ?_⟩
      exact ov_ix H1 (blk Bf ow1) _ y d v v2 Q h3 (r1.rp g2) p1 (fun p hp => k1.nb hp) fun v H' ex p => q v ow1 H' (k1.ext ex) (r1.trans ex.rel) p
/-- len(x) -/
def eLenO (i : Nat) : FE := fun en => match en[i]? with
  | some (.ow ds) => some (.int ds.length, en)
  | _ => none
theorem ve_lenO {i : Nat} {x : Str} {p p' : Pos} (hN : X.N[i]? = some x) (hv : Vis X.env.scope x := by first | exact .inl rfl | exact .inr (.inl rfl) | exact .inr (.inr rfl)) (hg : Gl X "len") (hm : X.mg "len" = none)
    (hd : (x == ("__debug__" : Str)) = false := by decide) (hcd : (x == ("__classdict__" : Str)) = false := by decide)
    (hst : starEach [.Name x p'] X.env = (false, eval (.Name x p') X.env) :: starEach [] X.env := by rfl) (hpl : (backTo pos (starEach [] X.env)).any (·.1) = false := by rfl) : VE X P (.Call (.Name "len" p) [.Name x p'] [] pos) (eLenO i) :=
  PE.weak (pe_callB call_len_seq hg hm PySem.boot_len (pa_cons (pe_var hN hv hd hcd) pa_nil hst) (by decide) (by decide) hst hpl) fun σ H Q h => by
    obtain ⟨Bf, ow, en, k, d, en', hf, q⟩ := h
    unfold eLenO at hf
    split at hf <;> first | cases hf | skip
    rename_i ds e0
    obtain ⟨a, xs0, g1, g2, g3, g4⟩ := k.hown i ds e0
    exact ⟨_, g2, a, xs0, rfl, .inl (SqL.of g3), q _ ow H k .refl (by rw [← g4.length]; exact .int _)⟩
/-- a list of one's own, given away new -/
def lVar (P : List Nat) (i : Nat) : FL := fun en => match en[i]? with
  | some (.ow ds) => if i ∈ P then none else some (ds, en.set i .un)
  | _ => none
end
end VL

namespace VL
open PySem PySem.Spec
open PyProof.Rows L2

section
variable {X : Cx} {P : Pl} {a b e : Expr} {es : List Expr} {fa fb : FE} {ga : FA} {pos apos cpos : Pos}
/-! ### returns of new lists -/
def sRetF (f : FL) : FS := fun en => match f en with
  | some (ds, en1) => some (.rf ds en1)
  | none => none
theorem vs_retF {f : FL} (he : VF X P e f) : VS X P (.Return (some e) pos) (sRetF f) := PS.weak (ps_ret he) fun Dn σ H h => by
  obtain ⟨Bf, ow, en, k, o, hf, q⟩ := h
  unfold sRetF at hf
  split at hf <;> first | cases hf | skip
  rename_i d en1 h1
  exact ⟨Bf, ow, en, k, _, _, h1, fun p xs ow1 H1 k1 r1 b1 b2 b3 b4 hp rs => q ow1 σ H1 p xs k1 r1.s b1 b2 b3 hp rs⟩
theorem Ok.freeO {Bf : Bk} {ow : Nat → Option Addr} {en : En} {σ : L2.St} {H : Hp} (k : Ok P Bf ow en σ H) {i : Nat} {sl : Sl} (hi : i ∉ P) (e : en[i]? = some sl) (ho : isOwn sl = true) :
    ∃ a, σ[i]? = some (some (.ref a)) ∧ Ok P (insB Bf a) (dropOw ow i) (en.set i .un) σ H ∧ ¬ Bf.bl a ∧ ¬ Bf.od a ∧ (∀ j, dropOw ow i j ≠ some a) ∧ OwnAt H (blk (insB Bf a) (dropOw ow i)) a sl := by
  obtain ⟨a, h1, h2, h3⟩ := k.hob i sl e ho
  have na : ∀ j, dropOw ow i j ≠ some a := fun j z => by
    have := k.hinj j i a (dropOw_sub _ _ z) h1
    subst this
    unfold dropOw at z
    rw [if_pos rfl] at z
    cases z
  have mv : ∀ b o, H b = some o → NT o → ¬ blk Bf ow b → H b = some o ∧ ¬ blk (insB Bf a) (dropOw ow i) b := fun b o e t n => ⟨e, fun z => by
    rcases insB_blk z with z | z
    · exact n (dropOw_blk z)
    · subst z
      exact n (.inr ⟨i, h1⟩)⟩
  have mvN : ∀ b o, H b = some o → NT o → ¬ blkN Bf ow b → H b = some o ∧ ¬ blkN (insB Bf a) (dropOw ow i) b := fun b o e t n => ⟨e, fun z => by
    rcases insB_blkN z with z | z
    · exact n (z.elim (fun z => .inl (dropOw_blk z)) .inr)
    · subst z
      exact n (.inl (.inr ⟨i, h1⟩))⟩
  refine ⟨a, h2, ⟨by simp [k.hlen], fun j d' e' => ?_, fun j d' e' => ?_, fun j s' e' f => ?_, fun j b e' => ?_, fun j l b e1 e2 => k.hinj j l b (dropOw_sub _ _ e1) (dropOw_sub _ _ e2), fun b h => ?_, k.hod, fun j b e' hj => ?_, k.htab⟩, (k.hloc i a h1 hi).1, (k.hloc i a h1 hi).2, na, h3.move (fun o e _ => e) mv⟩
  · by_cases hj : j = i
    · subst hj
      rw [List.getElem?_set_self (List.getElem?_eq_some_iff.mp e).1] at e'
      cases e'
    · rw [List.getElem?_set_ne (Ne.symm hj)] at e'
      obtain ⟨w, h1, h2⟩ := k.hva j d' e'
      exact ⟨w, h1, h2.move mv⟩
  · by_cases hj : j = i
    · subst hj
      rw [List.getElem?_set_self (List.getElem?_eq_some_iff.mp e).1] at e'
      cases e'
    · rw [List.getElem?_set_ne (Ne.symm hj)] at e'
      obtain ⟨w, h1, h2⟩ := k.hvn j d' e'
      exact ⟨w, h1, h2.move mvN⟩
  · by_cases hj : j = i
    · subst hj
      rw [List.getElem?_set_self (List.getElem?_eq_some_iff.mp e).1] at e'
      cases e'
      cases f
    · rw [List.getElem?_set_ne (Ne.symm hj)] at e'
      obtain ⟨b, g1, g2, g3⟩ := k.hob j s' e' f
      exact ⟨b, by unfold dropOw; rw [if_neg hj]; exact g1, g2, g3.move (fun o e _ => e) mv⟩
  · have e2 := dropOw_sub _ _ e'
    unfold dropOw at e'
    split at e'
    · cases e'
    · rename_i hj
      rw [List.getElem?_set_ne (Ne.symm hj)]
      exact k.hdom j b e2
  · rcases h with h | h
    · exact k.hbf b h
    · subst h
      exact h3.ne
  · refine ⟨fun z => ?_, (k.hloc j b (dropOw_sub _ _ e') hj).2⟩
    rcases z with z | z
    · exact (k.hloc j b (dropOw_sub _ _ e') hj).1 z
    · subst z
      exact na j e'
theorem Ok.free {Bf : Bk} {ow : Nat → Option Addr} {en : En} {σ : L2.St} {H : Hp} (k : Ok P Bf ow en σ H) {i : Nat} {ds : List D} (hi : i ∉ P) (e : en[i]? = some (.ow ds)) :
    ∃ a xs, σ[i]? = some (some (.ref a)) ∧ Ok P (insB Bf a) (dropOw ow i) (en.set i .un) σ H ∧ ¬ Bf.bl a ∧ ¬ Bf.od a ∧ (∀ j, dropOw ow i j ≠ some a) ∧ H a = some (.lst xs) ∧ RpL H (blk (insB Bf a) (dropOw ow i)) ds xs := by
  obtain ⟨a, h1, h2, h3, h4, h5, xs, h6, h7⟩ := k.freeO hi e rfl
  exact ⟨a, xs, h1, h2, h3, h4, h5, h6, h7⟩
def sRetO (P : List Nat) (i : Nat) : FS := fun en => match en[i]? with
  | some (.ow ds) => if i ∈ P then none else some (.rf ds (en.set i .un))
  | _ => none
theorem vs_retO {i : Nat} {x : Str} {p : Pos} (hN : X.N[i]? = some x) (hv : Vis X.env.scope x := by first | exact .inl rfl | exact .inr (.inl rfl) | exact .inr (.inr rfl)) (hd : (x == ("__debug__" : Str)) = false := by decide) (hcd : (x == ("__classdict__" : Str)) = false := by decide) : VS X P (.Return (some (.Name x p)) pos) (sRetO P.ps i) :=
  PS.weak (ps_ret (pe_var hN hv hd hcd)) fun Dn σ H h => by
    obtain ⟨Bf, ow, en, k, o, hf, q⟩ := h
    unfold sRetO at hf
    split at hf <;> first | cases hf | skip
    rename_i ds e0
    split at hf <;> first | cases hf | skip
    rename_i hi
    obtain ⟨a, xs, g1, k2, b1, b2, b3, hp, rs⟩ := k.free hi e0
    exact ⟨_, g1, q _ σ H a xs k2 (dropOw_rel hi).s b1 b2 b3 hp rs⟩
end

/-! ### functions -/
structure Aft (P : Pl) (Bf : Bk) (ow : Nat → Option Addr) (as' : En) (H H' : Hp) : Prop where
  own : ∀ i, i ∈ P → ∀ a, ow i = some a → ∃ s, as'[i]? = some s ∧ isOwn s = true ∧ OwnAt H' (blk Bf ow) a s
  keep : ∀ b o, H b = some o → NT o → (∀ i, ow i ≠ some b) → H' b = some o
  dom : ∀ b, H b ≠ none → H' b ≠ none
  tab : LamX.Tabs P.tb H'
abbrev FF := En → Option (D × En)
abbrev FFL := En → Option (List D × En)
def spV (P : Pl) (n : Nat) (F : FF) : Sp := fun vs H Q _ => ∃ Bf ow as, as.length = n ∧ Ok P Bf ow as (vs.map some) H ∧ (∀ i a, ow i = some a → i ∈ P) ∧ (∀ (i : Nat) (d : D), as[i]? ≠ some (Sl.vn d)) ∧ ∃ d as', F as = some (d, as') ∧
  ∀ v H', Aft P Bf ow as' H H' → Rp H' (blk Bf ow) d v → Q v H'
def spL (P : Pl) (n : Nat) (F : FFL) : Sp := fun vs H Q _ => ∃ Bf ow as, as.length = n ∧ Ok P Bf ow as (vs.map some) H ∧ (∀ i a, ow i = some a → i ∈ P) ∧ (∀ (i : Nat) (d : D), as[i]? ≠ some (Sl.vn d)) ∧ ∃ ds as', F as = some (ds, as') ∧
  ∀ p xs H', Aft P (insB Bf p) ow as' H H' → H p = none → H' p = some (.lst xs) → RpL H' (blk (insB Bf p) ow) ds xs → Q (.ref p) H'
def fnV (m : Nat) (f : FS) : FF := fun as => match f (as ++ List.replicate (m - as.length) .un) with
  | some (.rt d en) => some (d, en)
  | some (.nx en) => some (.none, en)
  | some (.rf ds en) => some (.list ds, en)
  | _ => none
def fnL (m : Nat) (f : FS) : FFL := fun as => match f (as ++ List.replicate (m - as.length) .un) with
  | some (.rf ds en) => some (ds, en)
  | _ => none
section
variable {P : Pl} {Bf : Bk} {ow ow' : Nat → Option Addr} {as en' : En} {vs : List V} {H H' : Hp}
def runB (Bf : Bk) (H : Hp) : Bk := ⟨Bf.bl, fun b => H b ≠ none⟩
theorem ok_start {N : List Str} (k : Ok P Bf ow as (vs.map some) H) (hw : ∀ i a, ow i = some a → i ∈ P) (hn : ∀ (i : Nat) (d : D), as[i]? ≠ some (Sl.vn d)) : Ok P (runB Bf H) ow (as ++ List.replicate (N.length - as.length) .un) (L2.start N vs) H := by
  have hl : vs.length = as.length := by simpa using k.hlen
  have e1 : ∀ (i : Nat) (s : Sl), (as ++ List.replicate (N.length - as.length) Sl.un)[i]? = some s → s ≠ .un → as[i]? = some s := fun i s e hs => by
    by_cases hi : i < as.length
    · rw [List.getElem?_append_left hi] at e
      exact e
    · rw [List.getElem?_append_right (by omega)] at e
      have := List.mem_of_getElem? e
      exact absurd (List.eq_of_mem_replicate this) hs
  have e2 : ∀ (i : Nat) (v : V), (vs.map some)[i]? = some (some v) → (L2.start N vs)[i]? = some (some v) := fun i v e => by
    unfold L2.start
    rw [List.getElem?_append_left (List.getElem?_eq_some_iff.mp e).1]
    exact e
  refine ⟨?_, fun i d e => ?_, fun i d e => absurd (e1 i _ e (fun z => nomatch z)) (hn i d), fun i s e f => ?_, fun i a e => ?_, k.hinj, k.hbf, fun b h => h, fun i a e hi => absurd (hw i a e) hi, k.htab⟩
  · unfold L2.start
    simp [hl]
  · obtain ⟨v, h1, h2⟩ := k.hva i d (e1 i _ e (fun z => nomatch z))
    exact ⟨v, e2 i v h1, h2⟩
  · obtain ⟨a, h1, h2, h3⟩ := k.hob i s (e1 i _ e (fun z => by subst z; cases f)) f
    exact ⟨a, h1, e2 i _ h2, h3⟩
  · obtain ⟨s, e, f⟩ := k.hdom i a e
    exact ⟨s, by rw [List.getElem?_append_left (List.getElem?_eq_some_iff.mp e).1]; exact e, f⟩
theorem run_sub (hw : ∀ i a, ow i = some a → i ∈ P) (hp : ∀ i, i ∈ P → ow' i = ow i) {b : Addr} (z : blk Bf ow b) : blk (runB Bf H) ow' b := by
  rcases z with z | ⟨i, z⟩
  · exact .inl z
  · exact .inr ⟨i, by rw [hp i (hw i b z)]; exact z⟩
theorem run_subI {p : Addr} (hw : ∀ i a, ow i = some a → i ∈ P) (hp : ∀ i, i ∈ P → ow' i = ow i) {b : Addr} (z : blk (insB Bf p) ow b) : blk (insB (runB Bf H) p) ow' b := by
  rcases z with z | ⟨i, z⟩
  · exact .inl z
  · exact .inr ⟨i, by rw [hp i (hw i b z)]; exact z⟩
theorem aft_of {σ' : L2.St} (hw : ∀ i a, ow i = some a → i ∈ P) (k : Ok P (runB Bf H) ow' en' σ' H') (r : RelS P H ow H' ow') : Aft P Bf ow en' H H' :=
  ⟨fun i hi a e => by
    have e' : ow' i = some a := (r.hpin i hi).trans e
    obtain ⟨s, h, f, g2, g3⟩ := k.hat e'
    exact ⟨s, h, f, g3.move (fun o e _ => e) fun b o e t n => ⟨e, fun z => n (run_sub hw r.hpin z)⟩⟩, fun b o e t n => (r.hkeep b o e t n).1, r.hsome, k.htab⟩
theorem aft_ofI {σ' : L2.St} {p : Addr} (hw : ∀ i a, ow i = some a → i ∈ P) (k : Ok P (insB (runB Bf H) p) ow' en' σ' H') (r : RelS P H ow H' ow') : Aft P (insB Bf p) ow en' H H' :=
  ⟨fun i hi a e => by
    have e' : ow' i = some a := (r.hpin i hi).trans e
    obtain ⟨s, h, f, g2, g3⟩ := k.hat e'
    exact ⟨s, h, f, g3.move (fun o e _ => e) fun b o e t n => ⟨e, fun z => n (run_subI hw r.hpin z)⟩⟩, fun b o e t n => (r.hkeep b o e t n).1, r.hsome, k.htab⟩
/-- a body's reading gives the function's promise -/
theorem body_V {N : List Str} {n : Nat} {f : FS} {Q : VK} {E : XK} (h : spV P n (fnV N.length f) vs H Q E) : tvS P f { nx := fun _ H' => Q .non H', rt := Q } (L2.start N vs) H := by
  obtain ⟨Bf, ow, as, hl, k, hw, hn, d, as', hF, q⟩ := h
  unfold fnV at hF
  split at hF
  · rename_i d' en h1
    cases hF
    refine ⟨runB Bf H, ow, _, ok_start k hw hn, _, h1, fun ow' σ' H' v k' r p => ?_⟩
    exact q v H' (aft_of hw k' r) (p.move fun b o e t n => ⟨e, fun z => n (run_sub hw r.hpin z)⟩)
  · rename_i en h1
    cases hF
    refine ⟨runB Bf H, ow, _, ok_start k hw hn, _, h1, fun ow' σ' H' k' r => ?_⟩
    exact q .non H' (aft_of hw k' r) .non
  · rename_i ds en h1
    cases hF
    refine ⟨runB Bf H, ow, _, ok_start k hw hn, _, h1, fun ow' σ' H' p xs k' r b1 b2 b3 hp rs => ?_⟩
    exact q (.ref p) H' (aft_of hw k'.unins r) ((Rp.lst (new_nb b1 b3) (.inl hp) rs.unins).move fun b o e t n => ⟨e, fun z => n (run_sub hw r.hpin z)⟩)
  · cases hF
theorem body_L {N : List Str} {n : Nat} {f : FS} {Q : VK} {E : XK} (h : spL P n (fnL N.length f) vs H Q E) : tvS P f { nx := fun _ H' => Q .non H', rt := Q } (L2.start N vs) H := by
  obtain ⟨Bf, ow, as, hl, k, hw, hn, d, as', hF, q⟩ := h
  unfold fnL at hF
  split at hF
  · rename_i ds en h1
    cases hF
    refine ⟨runB Bf H, ow, _, ok_start k hw hn, _, h1, fun ow' σ' H' p xs k' r b1 b2 b3 hp rs => ?_⟩
    refine q p xs H' (aft_ofI hw k' r) ?_ hp (rs.move fun b o e t n => ⟨e, fun z => n (run_subI hw r.hpin z)⟩)
    cases e : H p with
    | none => rfl
    | some o => exact absurd (show H p ≠ none by rw [e]; exact fun z => nomatch z) b2
  · cases hF
theorem len_V {n : Nat} {F : FF} {ps : List Str} (hn : ps.length = n) : ∀ vs H Q E, spV P n F vs H Q E → vs.length = ps.length := fun vs H Q E h => by
  obtain ⟨Bf, ow, as, hl, k, _⟩ := h
  have := k.hlen
  rw [List.length_map] at this
  omega
theorem len_L {n : Nat} {F : FFL} {ps : List Str} (hn : ps.length = n) : ∀ vs H Q E, spL P n F vs H Q E → vs.length = ps.length := fun vs H Q E h => by
  obtain ⟨Bf, ow, as, hl, k, _⟩ := h
  have := k.hlen
  rw [List.length_map] at this
  omega
end
/-- a def that keeps its promise, by its name -/
structure Def (P : Program) (w : World) (K : PySem.W.Frag) (mg : Str → Option Value) (base : Heap) (x : Str) (k : Nat) (ps : List Str) (sp : Sp) : Prop where
  ex : ∃ (f : Addr) (fd : FuncData), mg x = some (.ref f) ∧ PySem.W.keepIn K (.ref f) = true ∧ Binds K fd ps [] ∧ FnOk P w K mg base CX0 k f fd ps sp ∧ ∃ oc od osl, K.lookup f = some ⟨oc, od, .func fd, osl⟩
/-- what a name's def is, before its promise -/
structure Nmd (K : PySem.W.Frag) (mg : Str → Option Value) (x : String) (st : Stmt) (ps : List Str) : Prop where
  ex : ∃ (f : Addr) (fd : FuncData), mg x = some (.ref f) ∧ Fun K x x st f fd ∧ Binds K fd ps []
theorem fun_lk {K : PySem.W.Frag} {x qual : Str} {st : Stmt} {f : Addr} {fd : FuncData} (F : Fun K x qual st f fd) : ∃ oc od osl, K.lookup f = some ⟨oc, od, .func fd, osl⟩ := by
  obtain ⟨oc, od, kV, doc, pm, an, cdv, ct, osl, rfl, lk, _⟩ := F.ex
  exact ⟨oc, od, osl, lk⟩
section
variable {Pg : Program} {w : World} {K : PySem.W.Frag} {mg : Str → Option Value} {base : Heap} {P : Pl}
theorem def_V {x : String} {st : Stmt} {N ps : List Str} {k : Nat} {f : FS} (F : Nmd K mg x st ps) (S : FnScope N ps (defScope st))
    (hb : ∀ (fa : Addr) (cdv : Value) (A : Around) (outer : List Env) (s : Shared) (H : Hp) (E : XK), Room k (A.deeper (envOfC x (defScope st) s.heap.objs.size fa cdv)) → VB (cxOf CX0 Pg w K mg base N x (defScope st) fa cdv A outer s H E).nox P (defBody st) f) :
    Def Pg w K mg base x (k + 1) ps (spV P ps.length (fnV N.length f)) := by
  obtain ⟨fa, fd, h1, h2, h3⟩ := F.ex
  exact ⟨fa, fd, h1, h2.kp, h3, h2.ok S (len_V rfl) fun cdv A outer s H vs Q E hr h => ⟨_, hb fa cdv A outer s H E hr, body_V h⟩, fun_lk h2⟩
theorem def_L {x : String} {st : Stmt} {N ps : List Str} {k : Nat} {f : FS} (F : Nmd K mg x st ps) (S : FnScope N ps (defScope st))
    (hb : ∀ (fa : Addr) (cdv : Value) (A : Around) (outer : List Env) (s : Shared) (H : Hp) (E : XK), Room k (A.deeper (envOfC x (defScope st) s.heap.objs.size fa cdv)) → VB (cxOf CX0 Pg w K mg base N x (defScope st) fa cdv A outer s H E).nox P (defBody st) f) :
    Def Pg w K mg base x (k + 1) ps (spL P ps.length (fnL N.length f)) := by
  obtain ⟨fa, fd, h1, h2, h3⟩ := F.ex
  exact ⟨fa, fd, h1, h2.kp, h3, h2.ok S (len_L rfl) fun cdv A outer s H vs Q E hr h => ⟨_, hb fa cdv A outer s H E hr, body_L h⟩, fun_lk h2⟩
end
end VL

namespace VL
open PySem PySem.Spec
open PyProof.Rows L2

/-! ### arguments of a call of one's own: a value, a list of the caller's own that the def may change, one that is lent -/
inductive Md where
  | v (d : D) | o (i : Nat) | b (i : Nat)
abbrev FM := En → Option (List Md × En)
def MdOk (Bf : Bk) (ow : Nat → Option Addr) (en : En) (H : Hp) : Md → V → Prop
  | .v d, x => Rp H (blk Bf ow) d x
  | .o i, x => ∃ a, ow i = some a ∧ x = .ref a
  | .b i, x => ∃ a, ow i = some a ∧ x = .ref a
def MdsOk (Bf : Bk) (ow : Nat → Option Addr) (en : En) (H : Hp) : List Md → List V → Prop
  | [], [] => True
  | m :: ms, x :: xs => MdOk Bf ow en H m x ∧ MdsOk Bf ow en H ms xs
  | _, _ => False
def tvM (P : Pl) (f : FM) : TA := fun σ H Q => ∃ Bf ow en, Ok P Bf ow en σ H ∧ ∃ ms en', f en = some (ms, en') ∧
  ∀ vs ow' H', Ok P Bf ow' en' σ H' → Rel P H ow H' ow' → MdsOk Bf ow' en' H' ms vs → Q vs H'
def VM (X : Cx) (P : Pl) (es : List Expr) (f : FM) : Prop := PA X es (tvM P f)
section
variable {X : Cx} {P : Pl} {a b e : Expr} {es : List Expr} {fa fb : FE} {gm : FM} {pos apos cpos : Pos}
def mNil : FM := fun en => some ([], en)
def mCons (f : FE) (g : FM) : FM := fun en => match f en with
  | some (d, en1) => match g en1 with
    | some (ms, en2) => some (.v d :: ms, en2)
    | none => none
  | none => none
def isOwnO : Option Sl → Bool
  | some s => isOwn s
  | none => false
theorem isOwnO_of {o : Option Sl} (h : isOwnO o = true) : ∃ s, o = some s ∧ isOwn s = true := by
  unfold isOwnO at h
  split at h
  · exact ⟨_, rfl, h⟩
  · cases h
def mOwn (i : Nat) (g : FM) : FM := fun en => if isOwnO en[i]? then (match g en with
  | some (ms, en1) => if isOwnO en1[i]? then some (.o i :: ms, en1) else none
  | none => none) else none
def mLend (i : Nat) (g : FM) : FM := fun en => if isOw en[i]? then (match g en with
  | some (ms, en1) => if isOw en1[i]? then some (.b i :: ms, en1) else none
  | none => none) else none
theorem vm_nil : VM X P [] mNil := by
  refine PA.weak pa_nil fun σ H Q h => ?_
  obtain ⟨Bf, ow, en, k, d, en', hf, q⟩ := h
  cases hf
  exact q [] ow H k .refl trivial
theorem vm_cons (ha : VE X P e fa) (hr : VM X P es gm) (hs : starEach (e :: es) X.env = (false, eval e X.env) :: starEach es X.env := by rfl) : VM X P (e :: es) (mCons fa gm) := by
  refine PA.weak (pa_cons ha hr hs) fun σ H Q h => ?_
  obtain ⟨Bf, ow, en, k, d, en', hf, q⟩ := h
  unfold mCons at hf
  split at hf <;> first | cases hf | skip
  rename_i d1 en1 h1
  split at hf <;> first | cases hf | skip
  rename_i ds en2 h2
  exact ⟨Bf, ow, en, k, _, _, h1, fun v1 ow1 H1 k1 r1 p1 => ⟨Bf, ow1, en1, k1, _, _, h2, fun vs ow2 H2 k2 r2 p2 => q _ ow2 H2 k2 (r1.trans r2) ⟨r2.rp p1, p2⟩⟩⟩
theorem vm_own {i : Nat} {x : Str} {p' : Pos} (hN : X.N[i]? = some x) (hv : Vis X.env.scope x := by first | exact .inl rfl | exact .inr (.inl rfl) | exact .inr (.inr rfl)) (hr : VM X P es gm) (hs : starEach (.Name x p' :: es) X.env = (false, eval (.Name x p') X.env) :: starEach es X.env := by rfl)
    (hd : (x == ("__debug__" : Str)) = false := by decide) (hcd : (x == ("__classdict__" : Str)) = false := by decide) : VM X P (.Name x p' :: es) (mOwn i gm) := by
  refine PA.weak (pa_cons (pe_var hN hv hd hcd) hr hs) fun σ H Q h => ?_
  obtain ⟨Bf, ow, en, k, d, en', hf, q⟩ := h
  unfold mOwn at hf
  split at hf <;> first | cases hf | skip
  rename_i h0
  obtain ⟨s0, e0, f0⟩ := isOwnO_of h0
  obtain ⟨a, g1, g2, g3⟩ := k.hob i s0 e0 f0
  split at hf <;> first | cases hf | skip
  rename_i ms en1 h1
  split at hf <;> first | cases hf | skip
  rename_i h2
  obtain ⟨s1, e1, f1⟩ := isOwnO_of h2
  refine ⟨_, g2, Bf, ow, en, k, _, _, h1, fun vs ow1 H1 k1 r1 p1 => q _ ow1 H1 k1 r1 ⟨?_, p1⟩⟩
  obtain ⟨a', w2, _⟩ := k1.hob i s1 e1 f1
  have w1 := r1.hsub i a' w2
  rw [g1] at w1
  cases w1
  exact ⟨a, w2, rfl⟩
theorem vm_lend {i : Nat} {x : Str} {p' : Pos} (hN : X.N[i]? = some x) (hv : Vis X.env.scope x := by first | exact .inl rfl | exact .inr (.inl rfl) | exact .inr (.inr rfl)) (hr : VM X P es gm) (hs : starEach (.Name x p' :: es) X.env = (false, eval (.Name x p') X.env) :: starEach es X.env := by rfl)
    (hd : (x == ("__debug__" : Str)) = false := by decide) (hcd : (x == ("__classdict__" : Str)) = false := by decide) : VM X P (.Name x p' :: es) (mLend i gm) := by
  refine PA.weak (pa_cons (pe_var hN hv hd hcd) hr hs) fun σ H Q h => ?_
  obtain ⟨Bf, ow, en, k, d, en', hf, q⟩ := h
  unfold mLend at hf
  split at hf <;> first | cases hf | skip
  rename_i h0
  obtain ⟨ds0, e0⟩ := isOw_of h0
  obtain ⟨a, xs0, g1, g2, g3, g4⟩ := k.hown i ds0 e0
  split at hf <;> first | cases hf | skip
  rename_i ms en1 h1
  split at hf <;> first | cases hf | skip
  rename_i h2
  obtain ⟨ds1, e1⟩ := isOw_of h2
  refine ⟨_, g2, Bf, ow, en, k, _, _, h1, fun vs ow1 H1 k1 r1 p1 => q _ ow1 H1 k1 r1 ⟨?_, p1⟩⟩
  obtain ⟨a', xs1, w1, w2, _⟩ := own_back k k1 r1 e1
  rw [g1] at w1
  cases w1
  exact ⟨a, w2, rfl⟩

/-! ### from the caller's state to the callee's, and back -/
def mdSl (en : En) : Md → Sl
  | .v d => .va d
  | .o i => (en[i]?).getD .un
  | .b i => match en[i]? with
    | some (.ow ds) => .va (.list ds)
    | _ => .un
/-- the callee's own lists -/
def mdOw (ow : Nat → Option Addr) (ms : List Md) (j : Nat) : Option Addr := match ms[j]? with
  | some (.o i) => ow i
  | _ => none
def isO : Md → Bool
  | .o _ => true
  | _ => false
def isB : Md → Bool
  | .b _ => true
  | _ => false
/-- which slots are handed over: no slot twice, and just those at the places P' -/
def handOk (P' : List Nat) (ms : List Md) : Bool := (List.range ms.length).all fun j => match ms[j]? with
  | some (.o i) => decide (j ∈ P') && (List.range ms.length).all fun l => match ms[l]? with
    | some (.o i') => i' != i || l == j
    | _ => true
  | _ => true
theorem MdsOk.length {Bf : Bk} {ow : Nat → Option Addr} {en : En} {H : Hp} : ∀ {ms : List Md} {vs : List V}, MdsOk Bf ow en H ms vs → ms.length = vs.length
  | [], [], _ => rfl
  | _ :: _, _ :: _, h => by simp [MdsOk.length h.2]
  | [], _ :: _, h => h.elim
  | _ :: _, [], h => h.elim
theorem MdsOk.get {Bf : Bk} {ow : Nat → Option Addr} {en : En} {H : Hp} : ∀ {ms : List Md} {vs : List V} {j : Nat} {m : Md}, MdsOk Bf ow en H ms vs → ms[j]? = some m → ∃ v, vs[j]? = some v ∧ MdOk Bf ow en H m v
  | [], [], _, _, _, e => by simp at e
  | m :: _, v :: _, 0, _, h, e => by simp at e; subst e; exact ⟨v, rfl, h.1⟩
  | _ :: ms, _ :: vs, j + 1, m, h, e => by
    obtain ⟨v, h1, h2⟩ := MdsOk.get (j := j) h.2 (by simpa using e)
    exact ⟨v, by simpa using h1, h2⟩
  | [], _ :: _, _, _, h, _ => h.elim
  | _ :: _, [], _, _, h, _ => h.elim
theorem handOk_spec {P' : List Nat} {ms : List Md} (h : handOk P' ms = true) {j i : Nat} (e : ms[j]? = some (Md.o i)) : j ∈ P' ∧ ∀ (l : Nat), ms[l]? = some (Md.o i) → l = j := by
  unfold handOk at h
  have hj := (List.all_eq_true.mp h) j (List.mem_range.mpr (List.getElem?_eq_some_iff.mp e).1)
  simp only [e, Bool.and_eq_true, decide_eq_true_eq] at hj
  refine ⟨hj.1, fun l el => ?_⟩
  have hl := (List.all_eq_true.mp hj.2) l (List.mem_range.mpr (List.getElem?_eq_some_iff.mp el).1)
  simp only [el, bne_self_eq_false, Bool.false_or, beq_iff_eq] at hl
  exact hl
/-- the callee's state: nothing lent -/
theorem callee_ok {Bf : Bk} {ow : Nat → Option Addr} {en : En} {σ : L2.St} {H : Hp} {ms : List Md} {vs : List V} {P' : Pl} (hP : P'.tb = P.tb) (k : Ok P Bf ow en σ H) (h : MdsOk Bf ow en H ms vs) (hb : ms.all (fun m => !isB m) = true) (hh : handOk P'.ps ms = true) :
    Ok P' ⟨blk Bf ow, fun _ => False⟩ (mdOw ow ms) (ms.map (mdSl en)) (vs.map some) H ∧ (∀ j a, mdOw ow ms j = some a → j ∈ P') ∧ ∀ (j : Nat) (d : D), (ms.map (mdSl en))[j]? ≠ some (Sl.vn d) := by
  have sub : ∀ b, blk ⟨blk Bf ow, fun _ => False⟩ (mdOw ow ms) b → blk Bf ow b := fun b z => by
    rcases z with z | ⟨j, z⟩
    · exact z
    · unfold mdOw at z
      split at z
      · exact .inr ⟨_, z⟩
      · cases z
  have mv : ∀ b o, H b = some o → NT o → ¬ blk Bf ow b → H b = some o ∧ ¬ blk ⟨blk Bf ow, fun _ => False⟩ (mdOw ow ms) b := fun b o e t n => ⟨e, fun z => n (sub b z)⟩
  have inP : ∀ j a, mdOw ow ms j = some a → j ∈ P' := fun j a e => by
    unfold mdOw at e
    split at e
    · rename_i i em
      exact (handOk_spec hh em).1
    · cases e
  have noN : ∀ (j : Nat) (d : D), (ms.map (mdSl en))[j]? ≠ some (Sl.vn d) := fun j d e => by
    rw [List.getElem?_map] at e
    cases em : ms[j]? with
    | none => rw [em] at e; cases e
    | some m =>
      rw [em] at e
      obtain ⟨v, h1, h2⟩ := h.get em
      cases m with
      | v d' => cases e
      | o i =>
        obtain ⟨a, h3, h4⟩ := h2
        obtain ⟨s', h5, h6⟩ := k.hdom i a h3
        simp [mdSl, h5] at e
        subst e
        cases h6
      | b i =>
        have := (List.all_eq_true.mp hb) _ (List.mem_of_getElem? em)
        simp [isB] at this
  refine ⟨⟨by simp [h.length], fun j d e => ?_, fun j d e => absurd e (noN j d), fun j s e f => ?_, fun j a e => ?_, fun j l a e1 e2 => ?_, fun b z => ?_, fun b z => z.elim, fun j a e hj => absurd (inP j a e) hj, by rw [hP]; exact k.htab⟩, inP, noN⟩
  · rw [List.getElem?_map] at e
    cases em : ms[j]? with
    | none => rw [em] at e; cases e
    | some m =>
      rw [em] at e
      obtain ⟨v, h1, h2⟩ := h.get em
      refine ⟨v, by rw [List.getElem?_map, h1]; rfl, ?_⟩
      cases m with
      | v d' =>
        cases e
        exact Rp.move mv h2
      | o i =>
        obtain ⟨a, h3, h4⟩ := h2
        obtain ⟨s', h5, h6⟩ := k.hdom i a h3
        simp [mdSl, h5] at e
        subst e
        cases h6
      | b i =>
        have := (List.all_eq_true.mp hb) _ (List.mem_of_getElem? em)
        simp [isB] at this
  · rw [List.getElem?_map] at e
    cases em : ms[j]? with
    | none => rw [em] at e; cases e
    | some m =>
      rw [em] at e
      obtain ⟨v, h1, h2⟩ := h.get em
      cases m with
      | v d' =>
        cases e
        cases f
      | o i =>
        obtain ⟨a, h3, h4⟩ := h2
        subst h4
        obtain ⟨s', h5, h6, g2, g3⟩ := k.hat h3
        simp [mdSl, h5] at e
        subst e
        exact ⟨a, by unfold mdOw; rw [em]; exact h3, by rw [List.getElem?_map, h1]; rfl, g3.move (fun o e _ => e) mv⟩
      | b i =>
        have := (List.all_eq_true.mp hb) _ (List.mem_of_getElem? em)
        simp [isB] at this
  · unfold mdOw at e
    split at e
    · rename_i i em
      obtain ⟨s', h5, h6⟩ := k.hdom i a e
      exact ⟨s', by rw [List.getElem?_map, em]; simp [mdSl, h5], h6⟩
    · cases e
  · unfold mdOw at e1 e2
    split at e1 <;> first | cases e1 | skip
    rename_i i em
    split at e2 <;> first | cases e2 | skip
    rename_i i' em'
    have := k.hinj i i' a e1 e2
    subst this
    exact (handOk_spec hh em').2 j em
  · rcases z with z | ⟨i, z⟩
    · exact k.hbf b z
    · obtain ⟨_, _, _, _, g3⟩ := k.hat z
      exact g3.ne
/-- what the callee has made of the lists that were handed over -/
def putBack : List Md → Nat → En → En → En
  | [], _, _, en => en
  | .o i :: ms, j, as', en => putBack ms (j + 1) as' (match as'[j]? with
    | some (.ow ds) => en.set i (.ow ds)
    | some (.dc t ds) => en.set i (.dc t ds)
    | _ => en)
  | _ :: ms, j, as', en => putBack ms (j + 1) as' en
theorem putBack_length : ∀ (ms : List Md) (j : Nat) (as' en : En), (putBack ms j as' en).length = en.length
  | [], _, _, _ => rfl
  | .o i :: ms, j, as', en => by
    unfold putBack
    rw [putBack_length ms]
    split <;> simp
  | .v _ :: ms, j, as', en => by unfold putBack; exact putBack_length ms _ _ _
  | .b _ :: ms, j, as', en => by unfold putBack; exact putBack_length ms _ _ _
theorem putBack_other {i : Nat} : ∀ (ms : List Md) (j : Nat) (as' en : En), (∀ (l : Nat), ms[l]? ≠ some (Md.o i)) → (putBack ms j as' en)[i]? = en[i]?
  | [], _, _, _, _ => rfl
  | .o i' :: ms, j, as', en, h => by
    unfold putBack
    have hne : i' ≠ i := fun z => h 0 (by rw [z]; rfl)
    rw [putBack_other ms _ _ _ fun l => by simpa using h (l + 1)]
    split
    · rw [List.getElem?_set_ne hne]
    · rw [List.getElem?_set_ne hne]
    · rfl
  | .v _ :: ms, j, as', en, h => by unfold putBack; exact putBack_other ms _ _ _ fun l => by simpa using h (l + 1)
  | .b _ :: ms, j, as', en, h => by unfold putBack; exact putBack_other ms _ _ _ fun l => by simpa using h (l + 1)
theorem putBack_at {i : Nat} {sl : Sl} (ho : isOwn sl = true) : ∀ (ms : List Md) (j l : Nat) (as' en : En), ms[l]? = some (Md.o i) → (∀ (l' : Nat), ms[l']? = some (Md.o i) → l' = l) → as'[j + l]? = some sl → i < en.length → (putBack ms j as' en)[i]? = some sl
  | [], _, _, _, _, h, _, _, _ => by simp at h
  | .o i' :: ms, j, 0, as', en, h, hu, ha, hl => by
    have e : i' = i := by simpa using h
    subst e
    unfold putBack
    rw [Nat.add_zero] at ha
    rw [ha]
    rw [putBack_other ms _ _ _ fun l z => by
      have := hu (l + 1) (by simpa using z)
      omega]
    cases sl with
    | ow ds => exact List.getElem?_set_self hl
    | dc t ds => exact List.getElem?_set_self hl
    | un => cases ho
    | va _ => cases ho
    | vn _ => cases ho
  | .o i' :: ms, j, l + 1, as', en, h, hu, ha, hl => by
    unfold putBack
    refine putBack_at ho ms (j + 1) l as' _ (by simpa using h) (fun l' z => by
      have := hu (l' + 1) (by simpa using z)
      omega) (by rw [← ha]; congr 1; omega) ?_
    split <;> simpa using hl
  | .v _ :: ms, j, 0, as', en, h, hu, ha, hl => by simp at h
  | .v _ :: ms, j, l + 1, as', en, h, hu, ha, hl => by
    unfold putBack
    exact putBack_at ho ms (j + 1) l as' _ (by simpa using h) (fun l' z => by
      have := hu (l' + 1) (by simpa using z)
      omega) (by rw [← ha]; congr 1; omega) hl
  | .b _ :: ms, j, 0, as', en, h, hu, ha, hl => by simp at h
  | .b _ :: ms, j, l + 1, as', en, h, hu, ha, hl => by
    unfold putBack
    exact putBack_at ho ms (j + 1) l as' _ (by simpa using h) (fun l' z => by
      have := hu (l' + 1) (by simpa using z)
      omega) (by rw [← ha]; congr 1; omega) hl
/-- behind the call; Bx: what is blocked for the callee (with a new list's address, if it gives one) -/
theorem caller_ok {Bf Bx : Bk} {ow : Nat → Option Addr} {en as' : En} {σ : L2.St} {H H' : Hp} {ms : List Md} {vs : List V} {P' : Pl} (hP : P'.tb = P.tb) (k : Ok P Bf ow en σ H) (h : MdsOk Bf ow en H ms vs) (hh : handOk P'.ps ms = true)
    (af : Aft P' Bx (mdOw ow ms) as' H H') (By : Bk) (h1 : ∀ b, blk Bf ow b → blk Bx (mdOw ow ms) b) (hy : ∀ b, blk By ow b → blk Bx (mdOw ow ms) b) (hyo : By.od = Bf.od)
    (mvy : ∀ b o, H b = some o → NT o → ¬ blk Bf ow b → H' b = some o ∧ ¬ blk By ow b) (hbf : ∀ b, By.bl b → H' b ≠ none) (hloc : ∀ i a, ow i = some a → i ∉ P → ¬ By.bl a) :
    Ok P By ow (putBack ms 0 as' en) σ H' ∧ Rel P H ow H' ow := by
  have keep : ∀ b o, H b = some o → NT o → (∀ i, ow i ≠ some b) → H' b = some o := fun b o e t n => af.keep b o e t fun j z => by
    unfold mdOw at z
    split at z
    · exact n _ z
    · cases z
  have mv2 : ∀ b o, H' b = some o → NT o → ¬ blk Bx (mdOw ow ms) b → H' b = some o ∧ ¬ blk By ow b := fun b o e t n => ⟨e, fun z => n (hy b z)⟩
  have cases_i : ∀ i, (∃ l : Nat, ms[l]? = some (Md.o i)) ∨ ∀ l : Nat, ms[l]? ≠ some (Md.o i) := fun i => by
    by_cases z : ∃ l : Nat, ms[l]? = some (Md.o i)
    · exact .inl z
    · exact .inr fun l e => z ⟨l, e⟩
  -- a slot that was handed over
  have handed : ∀ (i l : Nat), ms[l]? = some (Md.o i) → ∃ a sl, ow i = some a ∧ σ[i]? = some (some (.ref a)) ∧ (putBack ms 0 as' en)[i]? = some sl ∧ isOwn sl = true ∧ OwnAt H' (blk Bx (mdOw ow ms)) a sl := fun i l e => by
    obtain ⟨v, g1, a, g2, g3⟩ := h.get e
    obtain ⟨s0, g4, _, w2, _⟩ := k.hat g2
    obtain ⟨sl, g5, g6, g7⟩ := af.own l (handOk_spec hh e).1 a (by unfold mdOw; rw [e]; exact g2)
    refine ⟨a, sl, g2, w2, ?_, g6, g7⟩
    exact putBack_at g6 ms 0 l as' en e (handOk_spec hh e).2 (by rw [Nat.zero_add]; exact g5) (List.getElem?_eq_some_iff.mp g4).1
  have mvyN : ∀ b o, H b = some o → NT o → ¬ blkN Bf ow b → H' b = some o ∧ ¬ blkN By ow b := fun b o e t n => ⟨(mvy b o e t fun z => n (.inl z)).1, fun z => z.elim (mvy b o e t fun z => n (.inl z)).2 fun z => n (.inr (by rw [← hyo]; exact z))⟩
  refine ⟨⟨by rw [putBack_length]; exact k.hlen, fun i d e => ?_, fun i d e => ?_, fun i s e f => ?_, fun i a e => ?_, k.hinj, hbf, fun b z => af.dom b (k.hod b (by rw [← hyo]; exact z)), fun i a e hi => ⟨hloc i a e hi, by rw [hyo]; exact (k.hloc i a e hi).2⟩, by rw [← hP]; exact af.tab⟩, fun b o e t n => ⟨keep b o e t n, n⟩, af.dom, fun _ _ => rfl, fun _ _ z => z⟩
  · rcases cases_i i with ⟨l, z⟩ | z
    · obtain ⟨a, sl, g1, g2, g3, g4, _⟩ := handed i l z
      rw [g3] at e
      cases e
      cases g4
    · rw [putBack_other ms 0 as' en z] at e
      obtain ⟨v, g1, g2⟩ := k.hva i d e
      exact ⟨v, g1, g2.move mvy⟩
  · rcases cases_i i with ⟨l, z⟩ | z
    · obtain ⟨a, sl, g1, g2, g3, g4, _⟩ := handed i l z
      rw [g3] at e
      cases e
      cases g4
    · rw [putBack_other ms 0 as' en z] at e
      obtain ⟨v, g1, g2⟩ := k.hvn i d e
      exact ⟨v, g1, g2.move mvyN⟩
  · rcases cases_i i with ⟨l, z⟩ | z
    · obtain ⟨a, sl, g1, g2, g3, g4, g5⟩ := handed i l z
      rw [g3] at e
      cases e
      exact ⟨a, g1, g2, g5.move (fun o e _ => e) mv2⟩
    · rw [putBack_other ms 0 as' en z] at e
      obtain ⟨a, g1, g2, g3⟩ := k.hob i s e f
      refine ⟨a, g1, g2, g3.move (fun o e t => af.keep a o e t fun j w => ?_) mvy⟩
      unfold mdOw at w
      split at w
      · rename_i i' em
        have := k.hinj i' i a w g1
        subst this
        exact z j em
      · cases w
  · rcases cases_i i with ⟨l, z⟩ | z
    · obtain ⟨a, sl, g1, g2, g3, g4, g5⟩ := handed i l z
      exact ⟨sl, g3, g4⟩
    · obtain ⟨s, g, f⟩ := k.hdom i a e
      exact ⟨s, by rw [putBack_other ms 0 as' en z]; exact g, f⟩
end
end VL

namespace VL
open PySem PySem.Spec
open PyProof.Rows L2

section
variable {X : Cx} {P : Pl} {a b e : Expr} {es : List Expr} {fa fb : FE} {gm : FM} {pos apos cpos : Pos}
def noB (ms : List Md) : Bool := ms.all fun m => !isB m
def eCallF (P' : List Nat) (n : Nat) (F : FF) (g : FM) : FE := fun en => match g en with
  | some (ms, en1) => if handOk P' ms = true ∧ noB ms = true ∧ ms.length = n then (match F (ms.map (mdSl en1)) with
    | some (d, as') => some (d, putBack ms 0 as' en1)
    | none => none) else none
  | none => none
def lCallF (P' : List Nat) (n : Nat) (F : FFL) (g : FM) : FL := fun en => match g en with
  | some (ms, en1) => if handOk P' ms = true ∧ noB ms = true ∧ ms.length = n then (match F (ms.map (mdSl en1)) with
    | some (d, as') => some (d, putBack ms 0 as' en1)
    | none => none) else none
  | none => none
theorem tv_callF {P' : Pl} (hP : P'.tb = P.tb) {n : Nat} {F : FF} {E : XK} (σ : L2.St) (H : Hp) (Q : VK) (h : tv P (eCallF P'.ps n F gm) σ H Q) : tCall (spV P' n F) [] E (tvM P gm) σ H Q := by
  obtain ⟨Bf, ow, en, k, d, en', hf, q⟩ := h
  unfold eCallF at hf
  split at hf <;> first | cases hf | skip
  rename_i ms en1 h1
  split at hf <;> first | cases hf | skip
  rename_i hc
  obtain ⟨hh, hb, hl⟩ := hc
  split at hf <;> first | cases hf | skip
  rename_i d' as' hF
  refine ⟨Bf, ow, en, k, ms, en1, h1, fun vs ow1 H1 k1 r1 m1 => ?_⟩
  show spV P' n F (vs ++ []) H1 Q E
  rw [List.append_nil]
  obtain ⟨kc, hw, hn⟩ := callee_ok hP k1 m1 hb hh
  have sub : ∀ b, blk Bf ow1 b → blk ⟨blk Bf ow1, fun _ => False⟩ (mdOw ow1 ms) b := fun b z => .inl z
  refine ⟨_, _, _, by rw [List.length_map]; exact hl, kc, hw, hn, d, as', hF, fun v H' af p => ?_⟩
  have mvy : ∀ b o, H1 b = some o → NT o → ¬ blk Bf ow1 b → H' b = some o ∧ ¬ blk Bf ow1 b := fun b o e t nb => ⟨af.keep b o e t fun j z => (by
    unfold mdOw at z
    split at z
    · exact nb (.inr ⟨_, z⟩)
    · exact nomatch z), nb⟩
  obtain ⟨k2, r2⟩ := caller_ok hP k1 m1 hh af Bf sub sub rfl mvy (fun b z => af.dom b (k1.hbf b z)) fun i a e hi => (k1.hloc i a e hi).1
  exact q v ow1 H' k2 (r1.trans r2) (p.move fun b o e t nb => ⟨e, fun z => nb (sub b z)⟩)
theorem tvF_callF {P' : Pl} (hP : P'.tb = P.tb) {n : Nat} {F : FFL} {E : XK} (σ : L2.St) (H : Hp) (Q : VK) (h : tvF P (lCallF P'.ps n F gm) σ H Q) : tCall (spL P' n F) [] E (tvM P gm) σ H Q := by
  obtain ⟨Bf, ow, en, k, d, en', hf, q⟩ := h
  unfold lCallF at hf
  split at hf <;> first | cases hf | skip
  rename_i ms en1 h1
  split at hf <;> first | cases hf | skip
  rename_i hc
  obtain ⟨hh, hb, hl⟩ := hc
  split at hf <;> first | cases hf | skip
  rename_i d' as' hF
  refine ⟨Bf, ow, en, k, ms, en1, h1, fun vs ow1 H1 k1 r1 m1 => ?_⟩
  show spL P' n F (vs ++ []) H1 Q E
  rw [List.append_nil]
  obtain ⟨kc, hw, hn⟩ := callee_ok hP k1 m1 hb hh
  refine ⟨_, _, _, by rw [List.length_map]; exact hl, kc, hw, hn, d, as', hF, fun p xs H' af hp0 hp rs => ?_⟩
  have np := k1.nb hp0
  have sub : ∀ b, blk (insB Bf p) ow1 b → blk (insB ⟨blk Bf ow1, fun _ => False⟩ p) (mdOw ow1 ms) b := fun b z => by
    rcases insB_blk z with z | z
    · exact .inl (.inl z)
    · exact .inl (.inr z)
  have mvy : ∀ b o, H1 b = some o → NT o → ¬ blk Bf ow1 b → H' b = some o ∧ ¬ blk (insB Bf p) ow1 b := fun b o e t nb => ⟨af.keep b o e t fun j z => (by
    unfold mdOw at z
    split at z
    · exact nb (.inr ⟨_, z⟩)
    · exact nomatch z), fun z => (by
    rcases insB_blk z with z | z
    · exact nb z
    · subst z
      rw [hp0] at e
      exact nomatch e)⟩
  have hbf : ∀ b, (insB Bf p).bl b → H' b ≠ none := fun b z => by
    rcases z with z | z
    · exact af.dom b (k1.hbf b z)
    · subst z
      rw [hp]
      exact fun z => nomatch z
  have hloc : ∀ i a, ow1 i = some a → i ∉ P → ¬ (insB Bf p).bl a := fun i a e hi z => by
    rcases z with z | z
    · exact (k1.hloc i a e hi).1 z
    · subst z
      exact np (.inr ⟨i, e⟩)
  obtain ⟨k2, r2⟩ := caller_ok hP k1 m1 hh af (insB Bf p) (fun b z => sub b (blk_insB z)) sub rfl mvy hbf hloc
  have h0 : H p = none := by
    cases e : H p with
    | none => rfl
    | some o => exact absurd hp0 (r1.hsome p (by rw [e]; exact fun z => nomatch z))
  exact q p xs ow1 H' k2 (r1.trans r2) (fun z => np (.inl z)) (fun z => k1.hod p z hp0) (fun i z => np (.inr ⟨i, z⟩)) h0 hp (rs.move fun b o e t nb => ⟨e, fun z => nb (sub b z)⟩)
theorem ve_call {x : Str} {k n : Nat} {ps : List Str} {ps' : List Nat} {F : FF} {p : Pos} (D : Def X.prog X.w X.K X.mg X.base x k ps (spV ⟨ps', P.tb⟩ n F)) (hr : Room k X.A) (hg : Gl X x) (ha : VM X P (e :: es) gm)
    (hdb : (x == ("__debug__" : Str)) = false := by decide) (he : starEach (e :: es) X.env = (false, eval e X.env) :: starEach es X.env := by rfl) (hpl : (backTo pos (starEach es X.env)).any (·.1) = false := by rfl)
    : VE X P (.Call (.Name x p) (e :: es) [] pos) (eCallF ps' n F gm) := by
  obtain ⟨f, fd, h1, h2, h3, h4, _⟩ := D.ex
  exact PE.weak (pe_call (E := fun _ _ _ => False) h4 hr hg h1 h2 h3 .nil pass0 ha hdb he hpl) (tv_callF (P := P) (P' := ⟨ps', P.tb⟩) rfl)
theorem vf_call {x : Str} {k n : Nat} {ps : List Str} {ps' : List Nat} {F : FFL} {p : Pos} (D : Def X.prog X.w X.K X.mg X.base x k ps (spL ⟨ps', P.tb⟩ n F)) (hr : Room k X.A) (hg : Gl X x) (ha : VM X P (e :: es) gm)
    (hdb : (x == ("__debug__" : Str)) = false := by decide) (he : starEach (e :: es) X.env = (false, eval e X.env) :: starEach es X.env := by rfl) (hpl : (backTo pos (starEach es X.env)).any (·.1) = false := by rfl)
    : VF X P (.Call (.Name x p) (e :: es) [] pos) (lCallF ps' n F gm) := by
  obtain ⟨f, fd, h1, h2, h3, h4, _⟩ := D.ex
  exact PE.weak (pe_call (E := fun _ _ _ => False) h4 hr hg h1 h2 h3 .nil pass0 ha hdb he hpl) (tvF_callF (P := P) (P' := ⟨ps', P.tb⟩) rfl)
/-! ### lists that are lent, to a def that gives back a flat value -/
def noO (ms : List Md) : Bool := ms.all fun m => !isO m
def eCallB (n : Nat) (F : FF) (g : FM) : FE := fun en => match g en with
  | some (ms, en1) => if noO ms = true ∧ ms.length = n then (match F (ms.map (mdSl en1)) with
    | some (d, _) => if flatD d = true then some (d, en1) else none
    | none => none) else none
  | none => none
theorem tv_callB {n : Nat} {F : FF} {E : XK} (σ : L2.St) (H : Hp) (Q : VK) (h : tv P (eCallB n F gm) σ H Q) : tCall (spV ⟨[], P.tb⟩ n F) [] E (tvM P gm) σ H Q := by
  obtain ⟨Bf, ow, en, k, d, en', hf, q⟩ := h
  unfold eCallB at hf
  split at hf <;> first | cases hf | skip
  rename_i ms en1 h1
  split at hf <;> first | cases hf | skip
  rename_i hc
  obtain ⟨ho, hl⟩ := hc
  split at hf <;> first | cases hf | skip
  rename_i d' as' hF
  split at hf <;> first | cases hf | skip
  rename_i hfl
  refine ⟨Bf, ow, en, k, ms, _, h1, fun vs ow1 H1 k1 r1 m1 => ?_⟩
  show spV ⟨[], P.tb⟩ n F (vs ++ []) H1 Q E
  rw [List.append_nil]
  let Bc : Bk := ⟨fun b => blk Bf ow1 b ∧ ¬ ∃ j i : Nat, ms[j]? = some (Md.b i) ∧ ow1 i = some b, fun _ => False⟩
  have sub : ∀ b, blk Bc (fun _ => none) b → blk Bf ow1 b := fun b z => by
    rcases z with z | ⟨j, z⟩
    · exact z.1
    · cases z
  have mv : ∀ b o, H1 b = some o → NT o → ¬ blk Bf ow1 b → H1 b = some o ∧ ¬ blk Bc (fun _ => none) b := fun b o e t n => ⟨e, fun z => n (sub b z)⟩
  have noOw : ∀ (j i : Nat), ms[j]? ≠ some (Md.o i) := fun j i e => by
    have := (List.all_eq_true.mp ho) _ (List.mem_of_getElem? e)
    simp [isO] at this
  have noN : ∀ (j : Nat) (d : D), (ms.map (mdSl en'))[j]? ≠ some (Sl.vn d) := fun j d e => by
    rw [List.getElem?_map] at e
    cases em : ms[j]? with
    | none => rw [em] at e; cases e
    | some m =>
      rw [em] at e
      cases m with
      | v d' => cases e
      | o i => exact absurd em (noOw j i)
      | b i =>
        have e' : (mdSl en' (.b i)) = .vn d := Option.some.inj e
        simp only [mdSl] at e'
        split at e' <;> cases e'
  have kc : Ok ⟨[], P.tb⟩ Bc (fun _ => none) (ms.map (mdSl en')) (vs.map some) H1 := by
    refine ⟨by simp [m1.length], fun j d e => ?_, fun j d e => absurd e (noN j d), fun j s e f => ?_, fun j a e => (nomatch e), fun j l a e _ => (nomatch e), fun b z => ?_, fun b z => z.elim, fun j a e => (nomatch e), k1.htab⟩
    · rw [List.getElem?_map] at e
      cases em : ms[j]? with
      | none => rw [em] at e; cases e
      | some m =>
        rw [em] at e
        obtain ⟨v, g1, g2⟩ := m1.get em
        refine ⟨v, by rw [List.getElem?_map, g1]; rfl, ?_⟩
        cases m with
        | v d' =>
          cases e
          exact Rp.move mv g2
        | o i => exact absurd em (noOw j i)
        | b i =>
          obtain ⟨a, g3, g4⟩ := g2
          obtain ⟨s0, g5, f0, w2, w34⟩ := k1.hat g3
          have e' : (mdSl en' (.b i)) = .va d := Option.some.inj e
          cases s0 with
          | dc t kvs =>
            simp only [mdSl, g5] at e'
            cases e'
          | un => cases f0
          | va _ => cases f0
          | vn _ => cases f0
          | ow ds =>
          simp only [mdSl, g5] at e'
          cases e'
          obtain ⟨xs, w3, w4⟩ := w34
          subst g4
          refine .lst (fun z => ?_) (.inl w3) (w4.move mv)
          rcases z with z | ⟨l, z⟩
          · exact z.2 ⟨j, i, em, g3⟩
          · cases z
    · rw [List.getElem?_map] at e
      cases em : ms[j]? with
      | none => rw [em] at e; cases e
      | some m =>
        rw [em] at e
        cases m with
        | v d' =>
          cases e
          cases f
        | o i => exact absurd em (noOw j i)
        | b i =>
          have e' : (mdSl en' (.b i)) = s := Option.some.inj e
          subst e'
          simp only [mdSl] at f
          split at f <;> cases f
    · rcases z.1 with z | ⟨i, z⟩
      · exact k1.hbf b z
      · obtain ⟨_, _, _, _, g3⟩ := k1.hat z
        exact g3.ne
  refine ⟨Bc, fun _ => none, _, by rw [List.length_map]; exact hl, kc, (fun i a e => (nomatch e)), noN, d, as', hF, fun v H' af p => ?_⟩
  have ex : ExtT P.tb H1 H' := ⟨fun b o e t => af.keep b o e t fun j z => (nomatch z), af.dom, fun _ => af.tab⟩
  exact q v ow1 H' (k1.extT ex) (r1.trans ex.rel) (p.flat hfl)
theorem ve_callLent {x : Str} {k n : Nat} {ps : List Str} {F : FF} {p : Pos} (D : Def X.prog X.w X.K X.mg X.base x k ps (spV ⟨[], P.tb⟩ n F)) (hr : Room k X.A) (hg : Gl X x) (ha : VM X P (e :: es) gm)
    (hdb : (x == ("__debug__" : Str)) = false := by decide) (he : starEach (e :: es) X.env = (false, eval e X.env) :: starEach es X.env := by rfl) (hpl : (backTo pos (starEach es X.env)).any (·.1) = false := by rfl) :
    VE X P (.Call (.Name x p) (e :: es) [] pos) (eCallB n F gm) := by
  obtain ⟨f, fd, h1, h2, h3, h4, _⟩ := D.ex
  exact PE.weak (pe_call (E := fun _ _ _ => False) h4 hr hg h1 h2 h3 .nil pass0 ha hdb he hpl) tv_callB
end
end VL

namespace VL
open PySem PySem.Spec
open PyProof.Rows L2

/-! ### what is walked -/
/-- the iterator J gives the items ds, as long as what was reached stands -/
def Wk (J : It) (B : Addr → Prop) (H1 : Hp) (ds : List D) : Prop := ∀ (B' : Addr → Prop) (H : Hp) (i : Nat), (∀ b o, H1 b = some o → NT o → ¬ B b → H b = some o ∧ ¬ B' b) → (∀ p, H p = none → ¬ B' p) →
  (∀ d, ds[i]? = some d → J.go i H ∧ ∀ x H', J.yld i H x H' → Ext H H' ∧ Rp H' B' d x) ∧ (i = ds.length → J.stop i H)
def tvI (P : Pl) (f : FL) : TI := fun σ H R => ∃ Bf ow en, Ok P Bf ow en σ H ∧ ∃ ds en', f en = some (ds, en') ∧
  ∀ J ow' H', Ok P Bf ow' en' σ H' → Rel P H ow H' ow' → Wk J (blk Bf ow') H' ds → R J H'
def VI (X : Cx) (P : Pl) (tg iter : Expr) (f : FL) : Prop := PI X tg iter (tvI P f)
theorem PI.weak {X : Cx} {tg iter : Expr} {t t' : TI} (h : PI X tg iter t) (w : ∀ σ H R, t' σ H R → t σ H R) : PI X tg iter t' :=
  ⟨fun pins s σ H R I q => h.run pins s σ H R I (w σ H R q)⟩
theorem PI.or {X : Cx} {tg iter : Expr} {t t' : TI} (h : PI X tg iter t) (h' : PI X tg iter t') : PI X tg iter (fun σ H R => t σ H R ∨ t' σ H R) :=
  ⟨fun pins s σ H R I q => q.elim (h.run pins s σ H R I) (h'.run pins s σ H R I)⟩
section
variable {X : Cx} {P : Pl} {a b e tg : Expr} {es : List Expr} {fa fb : FE} {ga : FA} {pos apos cpos p : Pos}
/-- the two ways (a list, a tuple) are parted by the value: both readings evaluate the expression once -/
def iSeq (K : PySem.W.Frag) (t : TE) : TI := fun σ H R => t σ H fun x H1 => ∃ a, x = .ref a ∧ ((∃ xs, SqL K H1 a xs ∧ R (Itl K a) H1) ∨ ∃ xs, SqT K H1 a xs ∧ R (Itt K a) H1)
theorem pi_seq {l : Expr} {tl : TE} (hl : PE X l tl) : PI X tg l (iSeq X.K tl) := by
  refine ⟨fun pins s σ H R I h => ?_⟩
  refine thn (hl.run pins s σ H _ I h) fun v s1 ⟨x, H1, I1, r1, q1⟩ => ?_
  obtain ⟨a, e, q⟩ := q1
  subst e
  cases r1
  rcases q with ⟨xs, hq, q⟩ | ⟨xs, hq, q⟩
  · obtain ⟨its, rv, p, hz⟩ := I1.list hq
    refine wpAny_pyIter_list p.isList ?_
    refine ⟨s1.heap.objs.size, [s1.heap.objs.size], _, _, H1, rfl, I1.kept (t' := s1.toks) fun b o e => Heap.get?_push_of_some _ e, turn_list a _, ⟨_, Heap.get?_push_size _ rfl, rfl, rfl⟩, fun b hb => ?_, q⟩
    have e : b = s1.heap.objs.size := by simpa using hb
    subst e
    exact I1.fpOk (Nat.le_refl _) (I1.hok.fresh (Nat.le_refl _))
  · obtain ⟨its, rv, p, hz⟩ := I1.tuple hq
    refine wpAny_pyIter_tuple (show s1.heap.IsTuple a its.toArray from p) ?_
    refine ⟨s1.heap.objs.size, [s1.heap.objs.size], _, _, H1, rfl, I1.kept (t' := s1.toks) fun b o e => Heap.get?_push_of_some _ e, turn_tuple a _, ⟨_, Heap.get?_push_size _ rfl, rfl, rfl⟩, fun b hb => ?_, q⟩
    have e : b = s1.heap.objs.size := by simpa using hb
    subst e
    exact I1.fpOk (Nat.le_refl _) (I1.hok.fresh (Nat.le_refl _))
def iItems (f : FE) : FL := fun en => match f en with
  | some (.list ds, en1) => some (ds, en1)
  | some (.tuple ds, en1) => some (ds, en1)
  | _ => none
theorem vi_seq (ha : VE X P a fa) : VI X P tg a (iItems fa) := PI.weak (pi_seq ha) fun σ H R h => by
  obtain ⟨Bf, ow, en, k, ds, en', hf, q⟩ := h
  unfold iItems at hf
  split at hf
  · rename_i ds' en1 h1
    cases hf
    refine ⟨Bf, ow, en, k, _, _, h1, fun v ow1 H1 k1 r1 p1 => ?_⟩
    cases p1 with
    | lst nb r rs =>
      refine ⟨_, rfl, .inl ⟨_, .inl r, q _ ow1 H1 k1 r1 fun B' H2 i mv nb' => ⟨fun d e => ?_, fun e => ?_⟩⟩⟩
      · obtain ⟨v, h2, h3⟩ := rs.get e
        have r2 := Rd.keep r fun o e' t' => (mv _ _ e' t' nb).1
        exact ⟨⟨_, v, .inl r2, h2⟩, fun x H' y => by
          obtain ⟨rfl, y⟩ := y
          have := y _ (.inl r2)
          rw [h2] at this
          cases this
          exact ⟨.refl, h3.move mv⟩⟩
      · exact ⟨_, .inl (Rd.keep r fun o e' t' => (mv _ _ e' t' nb).1), by rw [← rs.length, e]; exact Nat.le_refl _⟩
  · rename_i ds' en1 h1
    cases hf
    refine ⟨Bf, ow, en, k, _, _, h1, fun v ow1 H1 k1 r1 p1 => ?_⟩
    cases p1 with
    | tup nb r rs =>
      refine ⟨_, rfl, .inr ⟨_, SqT.of r, q _ ow1 H1 k1 r1 fun B' H2 i mv nb' => ⟨fun d e => ?_, fun e => ?_⟩⟩⟩
      · obtain ⟨v, h2, h3⟩ := rs.get e
        have r2 := (mv _ _ r (fun _ z => nomatch z) nb).1
        exact ⟨⟨_, v, SqT.of r2, h2⟩, fun x H' y => by
          obtain ⟨rfl, y⟩ := y
          have := y _ (SqT.of r2)
          rw [h2] at this
          cases this
          exact ⟨.refl, h3.move mv⟩⟩
      · exact ⟨_, SqT.of (mv _ _ r (fun _ z => nomatch z) nb).1, by rw [← rs.length, e]; exact Nat.le_refl _⟩
  · cases hf
def rangeD (lo : Int) (n : Nat) : List D := (List.range n).map fun i => .int (lo + (i : Nat))
theorem wk_range {B : Addr → Prop} {H : Hp} (lo : Int) (n : Nat) : Wk (Itr lo n) B H (rangeD lo n) := fun B' H2 i mv nb => by
  refine ⟨fun d e => ?_, fun e => ?_⟩
  · unfold rangeD at e
    rw [List.getElem?_map] at e
    by_cases h : i < n
    · rw [List.getElem?_range h] at e
      cases e
      refine ⟨h, fun x H' y => ?_⟩
      obtain ⟨rfl, rfl⟩ := y
      exact ⟨.refl, .int _⟩
    · rw [List.getElem?_eq_none (by simpa using h)] at e
      cases e
  · have e' : i = n := by simpa [rangeD] using e
    show n ≤ i
    omega
def iRange1 (f : FA) : FL := fun en => match f en with
  | some ([.int j], en1) => if -(2 ^ 62) ≤ j ∧ j < 2 ^ 62 then some (rangeD 0 j.toNat, en1) else none
  | _ => none
def iRange2 (f : FA) : FL := fun en => match f en with
  | some ([.int i, .int j], en1) => if -(2 ^ 62) ≤ i ∧ i < 2 ^ 62 ∧ -(2 ^ 62) ≤ j ∧ j < 2 ^ 62 then some (rangeD i (j - i).toNat, en1) else none
  | _ => none
theorem vi_range1 (hg : Gl X "range") (hm : X.mg "range" = none) (ha : VA X P [a] ga) (hs : starEach [a] X.env = [(false, eval a X.env)] := by rfl) : VI X P tg (.Call (.Name "range" p) [a] [] pos) (iRange1 ga) := PI.weak (pi_range1 hg hm ha hs) fun σ H R h => by
  obtain ⟨Bf, ow, en, k, ds, en', hf, q⟩ := h
  unfold iRange1 at hf
  split at hf <;> first | cases hf | skip
  rename_i j en1 h1
  split at hf <;> first | cases hf | skip
  rename_i hj
  exact ⟨Bf, ow, en, k, _, _, h1, fun vs ow1 H1 k1 r1 p1 => by
    cases p1 with
    | cons p p1 =>
      cases p
      cases p1
      exact ⟨j, rfl, hj.1, hj.2, q _ ow1 H1 k1 r1 (wk_range 0 _)⟩⟩
theorem vi_range2 (hg : Gl X "range") (hm : X.mg "range" = none) (ha : VA X P [a, b] ga) (hs : starEach [a, b] X.env = [(false, eval a X.env), (false, eval b X.env)] := by rfl) (hs2 : starEach [b] X.env = [(false, eval b X.env)] := by rfl) :
    VI X P tg (.Call (.Name "range" p) [a, b] [] pos) (iRange2 ga) := PI.weak (pi_range2 hg hm ha hs hs2) fun σ H R h => by
  obtain ⟨Bf, ow, en, k, ds, en', hf, q⟩ := h
  unfold iRange2 at hf
  split at hf <;> first | cases hf | skip
  rename_i i j en1 h1
  split at hf <;> first | cases hf | skip
  rename_i hj
  exact ⟨Bf, ow, en, k, _, _, h1, fun vs ow1 H1 k1 r1 p1 => by
    cases p1 with
    | cons p p1 =>
      cases p
      cases p1 with
      | cons p p1 =>
        cases p
        cases p1
        exact ⟨i, j, rfl, hj, q _ ow1 H1 k1 r1 (wk_range i _)⟩⟩
def zipD : List D → List D → List D
  | x :: xs, y :: ys => .tuple [x, y] :: zipD xs ys
  | _, _ => []
theorem zipD_get : ∀ (xs ys : List D) (i : Nat) (d : D), (zipD xs ys)[i]? = some d → ∃ x y, xs[i]? = some x ∧ ys[i]? = some y ∧ d = .tuple [x, y]
  | x :: xs, y :: ys, 0, d, e => by
    have e' : PyData.tuple [x, y] = d := by simpa [zipD] using e
    exact ⟨x, y, rfl, rfl, e'.symm⟩
  | x :: xs, y :: ys, i + 1, d, e => zipD_get xs ys i d (by simpa [zipD] using e)
  | [], _, _, _, e => by simp [zipD] at e
  | _ :: _, [], _, _, e => by simp [zipD] at e
theorem zipD_len : ∀ (xs ys : List D), (zipD xs ys).length = min xs.length ys.length
  | x :: xs, y :: ys => by simp [zipD, zipD_len xs ys]
  | [], _ => by simp [zipD]
  | _ :: _, [] => by simp [zipD]
def iZipD (f : FA) : FL := fun en => match f en with
  | some ([.list xs, .list ys], en1) => some (zipD xs ys, en1)
  | some ([.tuple xs, .tuple ys], en1) => some (zipD xs ys, en1)
  | _ => none
theorem vi_zip {elts : List Expr} {kk : Nat} {tpos : Pos} (hg : Gl X "zip") (hm : X.mg "zip" = none) (ha : VA X P [a, b] ga)
    (hs : starEach [a, b] X.env = (false, eval a X.env) :: starEach [b] X.env := by rfl) (hpl : (backTo pos (starEach [b] X.env)).any (·.1) = false := by rfl) : VI X P (.Tuple elts kk tpos) (.Call (.Name "zip" p) [a, b] [] pos) (iZipD ga) := PI.weak (RZ.pi_zipA hg hm ha hs hpl) fun σ H R h => by
  obtain ⟨Bf, ow, en, k, ds, en', hf, q⟩ := h
  unfold iZipD at hf
  split at hf
  · rename_i xs ys en1 h1
    cases hf
    refine ⟨Bf, ow, en, k, _, _, h1, fun vs ow1 H1 k1 r1 p1 => ?_⟩
    cases p1 with
    | cons p p1 =>
      cases p1 with
      | cons p2 p1 =>
        cases p1
        cases p with
        | lst n1 d1 s1 =>
          cases p2 with
          | lst n2 d2 s2 =>
            refine ⟨_, _, _, _, rfl, .inl ⟨.inl d1, .inl d2, q _ ow1 H1 k1 r1 fun B' H2 i mv nb' => ⟨fun d e => ?_, fun e => ?_⟩⟩⟩
            · obtain ⟨x, y, e1, e2, rfl⟩ := zipD_get _ _ _ _ e
              obtain ⟨v1, g1, g2⟩ := s1.get e1
              obtain ⟨v2, g3, g4⟩ := s2.get e2
              have q1 := Rd.keep d1 fun o e' t' => (mv _ _ e' t' n1).1
              have q2 := Rd.keep d2 fun o e' t' => (mv _ _ e' t' n2).1
              refine ⟨⟨_, _, v1, v2, .inl q1, .inl q2, g1, g3⟩, fun x' H' y' => ?_⟩
              obtain ⟨T, u1, u2, rfl, hT, rfl, z1, z2⟩ := y'
              have w1 := z1 _ (.inl q1)
              have w2 := z2 _ (.inl q2)
              rw [g1] at w1
              rw [g3] at w2
              cases w1
              cases w2
              exact ⟨.upd hT, .tup (nb' T hT) upd_same (.cons ((Ext.upd hT).rp (g2.move mv)) (.cons ((Ext.upd hT).rp (g4.move mv)) .nil))⟩
            · refine ⟨_, _, .inl (Rd.keep d1 fun o e' t' => (mv _ _ e' t' n1).1), .inl (Rd.keep d2 fun o e' t' => (mv _ _ e' t' n2).1), ?_⟩
              rw [zipD_len] at e
              rw [← s1.length, ← s2.length]
              omega
  · rename_i xs ys en1 h1
    cases hf
    refine ⟨Bf, ow, en, k, _, _, h1, fun vs ow1 H1 k1 r1 p1 => ?_⟩
    cases p1 with
    | cons p p1 =>
      cases p1 with
      | cons p2 p1 =>
        cases p1
        cases p with
        | tup n1 d1 s1 =>
          cases p2 with
          | tup n2 d2 s2 =>
            refine ⟨_, _, _, _, rfl, .inr ⟨SqT.of d1, SqT.of d2, q _ ow1 H1 k1 r1 fun B' H2 i mv nb' => ⟨fun d e => ?_, fun e => ?_⟩⟩⟩
            · obtain ⟨x, y, e1, e2, rfl⟩ := zipD_get _ _ _ _ e
              obtain ⟨v1, g1, g2⟩ := s1.get e1
              obtain ⟨v2, g3, g4⟩ := s2.get e2
              have q1 := SqT.of (K := X.K) (mv _ _ d1 (fun _ z => nomatch z) n1).1
              have q2 := SqT.of (K := X.K) (mv _ _ d2 (fun _ z => nomatch z) n2).1
              refine ⟨⟨_, _, v1, v2, q1, q2, g1, g3⟩, fun x' H' y' => ?_⟩
              obtain ⟨T, u1, u2, rfl, hT, rfl, z1, z2⟩ := y'
              have w1 := z1 _ q1
              have w2 := z2 _ q2
              rw [g1] at w1
              rw [g3] at w2
              cases w1
              cases w2
              exact ⟨.upd hT, .tup (nb' T hT) upd_same (.cons ((Ext.upd hT).rp (g2.move mv)) (.cons ((Ext.upd hT).rp (g4.move mv)) .nil))⟩
            · refine ⟨_, _, SqT.of (mv _ _ d1 (fun _ z => nomatch z) n1).1, SqT.of (mv _ _ d2 (fun _ z => nomatch z) n2).1, ?_⟩
              rw [zipD_len] at e
              rw [← s1.length, ← s2.length]
              omega
  · cases hf

/-! ### for -/
def forD (body : D → En → Option Out) : List D → FS
  | [], en => some (.nx en)
  | d :: r, en => match body d en with
    | some (.nx en1) => forD body r en1
    | some (.ct en1) => forD body r en1
    | some (.bk en1) => some (.nx en1)
    | some (.rt v en1) => some (.rt v en1)
    | some (.rf v en1) => some (.rf v en1)
    | none => none
def turnD (g : FG) (f : FS) (d : D) (en : En) : Option Out := match g d en with
  | some en1 => f en1
  | none => none
def sFor (fi : FL) (g : FG) (f : FS) : FS := fun en => match fi en with
  | some (ds, en1) => forD (turnD g f) ds en1
  | none => none
theorem vs_for {iter : Expr} {body : List Stmt} {fi : FL} {g : FG} {f : FS} {ts : List Nat} (hp : PassesOwn (model X.prog X.w) X.A X.env X.xe) (hc : X.calm = true) (hi : VI X P tg iter fi) (hg : VG X P tg ts g) (hb : VB X P body f)
    (hs : ∀ x, foldedSetIterable iter X.env x = pure x := by intro _; rfl) : VS X P (.For tg iter body [] pos) (sFor fi g f) := PS.weak (ps_for hp hc hi hg hb hs) fun Dn σ H h => by
  obtain ⟨Bf, ow, en, k, o, hf, q⟩ := h
  unfold sFor at hf
  split at hf <;> first | cases hf | skip
  rename_i ds en1 h1
  refine ⟨Bf, ow, en, k, ds, en1, h1, fun J ow1 H1 k1 r1 wk => ?_⟩
  let Pv : Nat → L2.St → Hp → Prop := fun i σ' H' => i ≤ ds.length ∧ ∃ ow' en', Ok P Bf ow' en' σ' H' ∧ RelS P H1 ow1 H' ow' ∧ forD (turnD g f) (ds.drop i) en' = some o
  have qo : post P Bf Dn H1 ow1 o := q.trans r1.s
  refine ⟨fun i m σ' H' => m = ds.length - i ∧ Pv i σ' H', ⟨_, rfl, Nat.zero_le _, ow1, en1, k1, .refl, by simpa using hf⟩, ?_⟩
  rintro i m σ2 H2 ⟨rfl, hle, ow2, en2, k2, r2, e2⟩
  have W := wk (blk Bf ow2) H2 i (fun b o e t n => r2.mv b o e t n) (fun p hp => k2.nb hp)
  by_cases hlt : i < ds.length
  · have ed : ds[i]? = some ds[i] := List.getElem?_eq_getElem hlt
    obtain ⟨w1, w2⟩ := W.1 _ ed
    refine .inr ⟨w1, Pv (i + 1), fun σ' H' p' => ⟨ds.length - (i + 1), by omega, rfl, p'⟩, fun x H3 y => ?_⟩
    obtain ⟨ex, p⟩ := w2 x H3 y
    rw [List.drop_eq_getElem_cons hlt] at e2
    unfold forD turnD at e2
    cases eg : g ds[i] en2 with
    | none => rw [eg] at e2; cases e2
    | some en3 =>
      rw [eg] at e2
      simp only at e2
      refine ⟨Bf, ow2, en2, ds[i], k2.ext ex, p, en3, eg, fun ow3 σ3 k3 r3 _ => ?_⟩
      have r23 : RelS P H1 ow1 H3 ow3 := r2.trans (ex.rel.trans r3).s
      cases ef : f en3 with
      | none => rw [ef] at e2; cases e2
      | some o3 =>
        refine ⟨Bf, ow3, en3, k3, o3, ef, ?_⟩
        rw [ef] at e2
        cases o3 with
        | nx en4 => exact fun ow4 σ4 H4 k4 r4 => ⟨hlt, ow4, en4, k4, r23.trans r4, e2⟩
        | ct en4 => exact fun ow4 σ4 H4 k4 r4 => ⟨hlt, ow4, en4, k4, r23.trans r4, e2⟩
        | bk en4 =>
          cases e2
          exact fun ow4 σ4 H4 k4 r4 => qo ow4 σ4 H4 k4 (r23.trans r4)
        | rt v en4 =>
          cases e2
          exact qo.trans r23
        | rf v en4 =>
          cases e2
          exact qo.trans r23
  · have e : i = ds.length := by omega
    subst e
    rw [List.drop_length] at e2
    cases e2
    exact .inl ⟨W.2 rfl, qo ow2 σ2 H2 k2 r2⟩

/-! ### comprehensions -/
def wipeE (en : En) : List Nat → En
  | [] => en
  | v :: vs => (wipeE en vs).set v .un
theorem wipeE_un : ∀ (vs : List Nat) (en : En) (i : Nat), i ∈ vs → ∀ s, (wipeE en vs)[i]? = some s → s = .un
  | [], _, _, h, _, _ => by simp at h
  | v :: vs, en, i, h, s, e => by
    unfold wipeE at e
    by_cases hv : v = i
    · subst hv
      by_cases hl : v < (wipeE en vs).length
      · rw [List.getElem?_set_self hl] at e
        cases e
        rfl
      · rw [List.getElem?_eq_none (by simpa using hl)] at e
        cases e
    · rw [List.getElem?_set_ne hv] at e
      exact wipeE_un vs en i (by
        rcases List.mem_cons.mp h with h | h
        · exact absurd h.symm hv
        · exact h) s e
section
variable {Bf : Bk} {ow : Nat → Option Addr} {en : En} {σ : L2.St} {H : Hp}
/-- a slot is forgotten -/
theorem Ok.forget (k : Ok P Bf ow en σ H) (i : Nat) : Ok P Bf (dropOw ow i) (en.set i .un) (σ.set i none) H := by
  have mv : ∀ b o, H b = some o → NT o → ¬ blk Bf ow b → H b = some o ∧ ¬ blk Bf (dropOw ow i) b := fun b o e t n => ⟨e, fun z => n (dropOw_blk z)⟩
  have mvN : ∀ b o, H b = some o → NT o → ¬ blkN Bf ow b → H b = some o ∧ ¬ blkN Bf (dropOw ow i) b := fun b o e t n => ⟨e, fun z => n (z.elim (fun z => .inl (dropOw_blk z)) .inr)⟩
  refine ⟨by simp [k.hlen], fun j d' e' => ?_, fun j d' e' => ?_, fun j s' e' f => ?_, fun j b e' => ?_, fun j l b e1 e2 => k.hinj j l b (dropOw_sub _ _ e1) (dropOw_sub _ _ e2), k.hbf, k.hod, fun j b e' hj => k.hloc j b (dropOw_sub _ _ e') hj, k.htab⟩
  · by_cases hj : j = i
    · subst hj
      by_cases hl : j < en.length
      · rw [List.getElem?_set_self hl] at e'
        cases e'
      · rw [List.getElem?_eq_none (by simpa using hl)] at e'
        cases e'
    · rw [List.getElem?_set_ne (Ne.symm hj)] at e' ⊢
      obtain ⟨w, h1, h2⟩ := k.hva j d' e'
      exact ⟨w, h1, h2.move mv⟩
  · by_cases hj : j = i
    · subst hj
      by_cases hl : j < en.length
      · rw [List.getElem?_set_self hl] at e'
        cases e'
      · rw [List.getElem?_eq_none (by simpa using hl)] at e'
        cases e'
    · rw [List.getElem?_set_ne (Ne.symm hj)] at e' ⊢
      obtain ⟨w, h1, h2⟩ := k.hvn j d' e'
      exact ⟨w, h1, h2.move mvN⟩
  · by_cases hj : j = i
    · subst hj
      by_cases hl : j < en.length
      · rw [List.getElem?_set_self hl] at e'
        cases e'
        cases f
      · rw [List.getElem?_eq_none (by simpa using hl)] at e'
        cases e'
    · rw [List.getElem?_set_ne (Ne.symm hj)] at e' ⊢
      obtain ⟨b, g1, g2, g3⟩ := k.hob j s' e' f
      exact ⟨b, by unfold dropOw; rw [if_neg hj]; exact g1, g2, g3.move (fun o e _ => e) mv⟩
  · have e2 := dropOw_sub _ _ e'
    unfold dropOw at e'
    split at e'
    · cases e'
    · rename_i hj
      rw [List.getElem?_set_ne (Ne.symm hj)]
      exact k.hdom j b e2
theorem Ok.wipe (k : Ok P Bf ow en σ H) : ∀ (vs : List Nat), (∀ i ∈ vs, i ∉ P) → ∃ ow', Ok P Bf ow' (wipeE en vs) (L2.wipe σ vs) H ∧ Rel P H ow H ow'
  | [], _ => ⟨ow, k, .refl⟩
  | v :: vs, h => by
    obtain ⟨ow', k', r'⟩ := Ok.wipe k vs fun i hi => h i (List.mem_cons_of_mem _ hi)
    exact ⟨_, k'.forget v, r'.trans (dropOw_rel (h v (by simp)))⟩
/-- back to the frame's slots -/
theorem Ok.unwipe {vs : List Nat} (k : Ok P Bf ow en (L2.wipe σ vs) H) (hu : ∀ i ∈ vs, ∀ s, en[i]? = some s → s = .un) : Ok P Bf ow en σ H := by
  have back : ∀ (i : Nat) (v : V), (L2.wipe σ vs)[i]? = some (some v) → σ[i]? = some (some v) := fun i v e => (wipe_some e).1
  exact ⟨by rw [← k.hlen, wipe_length], fun i d e => let ⟨v, h1, h2⟩ := k.hva i d e; ⟨v, back _ _ h1, h2⟩, fun i d e => let ⟨v, h1, h2⟩ := k.hvn i d e; ⟨v, back _ _ h1, h2⟩, fun i s e f => let ⟨a, h1, h2, h3⟩ := k.hob i s e f; ⟨a, h1, back _ _ h2, h3⟩, k.hdom, k.hinj, k.hbf, k.hod, k.hloc, k.htab⟩
end
theorem wipe_get (σ : L2.St) (i : Nat) : ∀ vs : List Nat, (L2.wipe σ vs)[i]? = if i ∈ vs then (σ[i]?).map (fun _ => none) else σ[i]?
  | [] => by simp [L2.wipe]
  | v :: vs => by
    unfold L2.wipe
    have ih := wipe_get σ i vs
    by_cases h : v = i
    · subst h
      rw [if_pos List.mem_cons_self]
      by_cases hl : v < σ.length
      · rw [List.getElem?_set_self (by rw [wipe_length]; exact hl), List.getElem?_eq_getElem hl]
        rfl
      · rw [List.getElem?_eq_none (by rw [List.length_set, wipe_length]; omega), List.getElem?_eq_none (by omega)]
        rfl
    · rw [List.getElem?_set_ne h, ih]
      by_cases hi : i ∈ vs
      · rw [if_pos hi, if_pos (List.mem_cons_of_mem _ hi)]
      · rw [if_neg hi, if_neg (fun z => (List.mem_cons.mp z).elim (fun z => h z.symm) hi)]
theorem wipe_idem (σ : L2.St) (vs : List Nat) : L2.wipe (L2.wipe σ vs) vs = L2.wipe σ vs := by
  apply List.ext_getElem?
  intro i
  rw [wipe_get, wipe_get]
  by_cases h : i ∈ vs
  · rw [if_pos h, if_pos h]
    cases σ[i]? <;> rfl
  · rw [if_neg h, if_neg h]
def compD (g : FG) (tt : FT) (te : FE) (vs : List Nat) : List D → En → List D → Option (List D × En)
  | [], en, acc => some (acc, en)
  | d :: r, en, acc => match g d en with
    | some en1 => match tt en1 with
      | some (true, en2) => match te en2 with
        | some (y, en3) => if acc.length < sizeLine then compD g tt te vs r (wipeE en3 vs) (acc ++ [y]) else none
        | none => none
      | some (false, en2) => compD g tt te vs r (wipeE en2 vs) acc
      | none => none
    | none => none
def lComp (fi : FL) (g : FG) (tt : FT) (te : FE) (vs : List Nat) : FL := fun en => match fi en with
  | some (ds, en1) => compD g tt te vs ds (wipeE en1 vs) []
  | none => none
def tYesV : FT := fun en => some (true, en)
def VTs (X : Cx) (P : Pl) (ifs : List Expr) (f : FT) : Prop := PTs X ifs (tvT P f)
theorem vts_nil : VTs X P [] tYesV := ⟨fun pins s σ H Q I h => by
  obtain ⟨Bf, ow, en, k, b, en', hf, q⟩ := h
  cases hf
  exact pts_nil.run pins s σ H Q I (q ow H k .refl)⟩
theorem vts_one {c : Expr} {t : FT} (h : VT X P c t) : VTs X P [c] t := pts_one h
theorem compD_un {g : FG} {tt : FT} {te : FE} {vs : List Nat} : ∀ (ds : List D) (en : En) (acc out : List D) (en' : En), compD g tt te vs ds en acc = some (out, en') → (∀ i ∈ vs, ∀ s, en[i]? = some s → s = .un) → ∀ i ∈ vs, ∀ s, en'[i]? = some s → s = .un
  | [], en, acc, out, en', e, h => by
    unfold compD at e
    cases e
    exact h
  | d :: r, en, acc, out, en', e, h => by
    unfold compD at e
    split at e <;> first | cases e | skip
    split at e
    · split at e <;> first | cases e | skip
      split at e <;> first | cases e | skip
      exact compD_un r _ _ _ _ e fun i hi s q => wipeE_un vs _ i hi s q
    · exact compD_un r _ _ _ _ e fun i hi s q => wipeE_un vs _ i hi s q
    · cases e
/-- the reading of a comprehension, by data -/
theorem tvF_lc {fi : FL} {g : FG} {tt : FT} {te : FE} {vs ts : List Nat} (hvP : ∀ i ∈ vs, i ∉ P) (hts : ∀ i ∈ ts, i ∈ vs) (σ : L2.St) (H : Hp) (Q : VK) (h : tvF P (lComp fi g tt te vs) σ H Q) : tLc (tvI P fi) (tvG P ts g) (tvT P tt) (tv P te) vs σ H Q := by
  obtain ⟨Bf, ow, en, k, out, en', hf, q⟩ := h
  unfold lComp at hf
  split at hf <;> first | cases hf | skip
  rename_i ds en1 h1
  refine ⟨Bf, ow, en, k, ds, en1, h1, fun J ow1 H1 k1 r1 wk Dd hD => ?_⟩
  obtain ⟨oww, kw, rw⟩ := Ok.wipe k1 vs hvP
  let Pv : Nat → Hp → Prop := fun i H' => i ≤ ds.length ∧ ∃ ow' en2 acc xs, Ok P (insB Bf Dd) ow' en2 (L2.wipe σ vs) H' ∧ Rel P H1 ow1 H' ow' ∧ (∀ j, ow' j ≠ some Dd) ∧ H' Dd = some (.lst xs) ∧ RpL H' (blk (insB Bf Dd) ow') acc xs ∧
    (∀ i ∈ vs, ∀ s, en2[i]? = some s → s = .un) ∧ compD g tt te vs (ds.drop i) en2 acc = some (out, en')
  have npD := kw.nb hD
  refine ⟨fun i m H' => m = ds.length - i ∧ Pv i H', ⟨_, rfl, Nat.zero_le _, oww, _, [], [], kw.avoid hD, rw.trans (Ext.upd hD).rel, fun j z => npD (.inr ⟨j, z⟩), upd_same, .nil, fun i hi s e => wipeE_un vs en1 i hi s e, by simpa using hf⟩, ?_⟩
  rintro i m H2 ⟨rfl, hle, ow2, en2, acc, xs, k2, r2, nD, eD, rs, un2, e2⟩
  have mv2 : ∀ b o, H1 b = some o → NT o → ¬ blk Bf ow1 b → H2 b = some o ∧ ¬ blk (insB Bf Dd) ow2 b := fun b o e t n => by
    obtain ⟨z1, z2⟩ := r2.mv (Bf := Bf) b o e t n
    refine ⟨z1, fun z => ?_⟩
    rcases insB_blk z with z | z
    · exact z2 z
    · subst z
      rw [hD] at e
      cases e
  have W := wk (blk (insB Bf Dd) ow2) H2 i mv2 (fun p hp => k2.nb hp)
  by_cases hlt : i < ds.length
  · have ed : ds[i]? = some ds[i] := List.getElem?_eq_getElem hlt
    obtain ⟨w1, w2⟩ := W.1 _ ed
    refine .inr ⟨w1, Pv (i + 1), fun H' p' => ⟨ds.length - (i + 1), by omega, rfl, p'⟩, fun x H3 y => ?_⟩
    obtain ⟨ex, p⟩ := w2 x H3 y
    rw [List.drop_eq_getElem_cons hlt] at e2
    unfold compD at e2
    cases eg : g ds[i] en2 with
    | none => rw [eg] at e2; cases e2
    | some en3 =>
      rw [eg] at e2
      simp only at e2
      refine ⟨insB Bf Dd, ow2, en2, ds[i], k2.ext ex, p, en3, eg, fun ow3 σ3 k3 r3 w3' => ?_⟩
      have w3 : L2.wipe σ3 vs = L2.wipe σ vs := (w3' vs hts).trans (wipe_idem σ vs)
      refine ⟨w3, ?_⟩
      have r13 : Rel P H1 ow1 H3 ow3 := r2.trans (ex.rel.trans r3)
      have nD3 : ∀ j, ow3 j ≠ some Dd := fun j z => nD j (r3.hsub j _ z)
      cases et : tt en3 with
      | none => rw [et] at e2; cases e2
      | some bt =>
        obtain ⟨b, en4⟩ := bt
        rw [et] at e2
        refine ⟨insB Bf Dd, ow3, en3, k3, b, en4, et, fun ow4 H4 k4 r4 => ?_⟩
        have eD4 : H4 Dd = some (.lst xs) := (r4.hkeep Dd _ (ex _ _ eD) (fun _ z => nomatch z) nD3).1
        have nD4 : ∀ j, ow4 j ≠ some Dd := fun j z => nD3 j (r4.hsub j _ z)
        have rs4 : RpL H4 (blk (insB Bf Dd) ow4) acc xs := (ex.rel.trans (r3.trans r4)).rpl rs
        cases b with
        | false =>
          simp only at e2
          change Pv (i + 1) H4
          obtain ⟨ow5, k5, r5⟩ := Ok.wipe k4 vs hvP
          rw [w3] at k5
          exact ⟨hlt, ow5, _, acc, xs, k5, (r13.trans r4).trans r5, fun j z => nD4 j (r5.hsub j _ z), eD4, r5.rpl rs4, fun i hi s e => wipeE_un vs _ i hi s e, e2⟩
        | true =>
          simp only at e2
          refine (show tv P te σ3 H4 _ from ?_)
          cases ee : te en4 with
          | none => rw [ee] at e2; cases e2
          | some yt =>
            obtain ⟨yd, en5⟩ := yt
            rw [ee] at e2
            simp only at e2
            split at e2 <;> first | cases e2 | skip
            rename_i hz
            refine ⟨insB Bf Dd, ow4, en4, k4, yd, en5, ee, fun v ow5 H5 k5 r5 p5 => ?_⟩
            have eD5 : H5 Dd = some (.lst xs) := (r5.hkeep Dd _ eD4 (fun _ z => nomatch z) nD4).1
            have nD5 : ∀ j, ow5 j ≠ some Dd := fun j z => nD4 j (r5.hsub j _ z)
            have rs5 := r5.rpl rs4
            refine ⟨xs, eD5, by rw [← rs4.length]; exact hz, ?_⟩
            -- the new list is written: nothing reaches it
            have mvD : ∀ (B : Nat → Option Addr), (∀ j, B j ≠ some Dd) → ∀ b o, H5 b = some o → NT o → ¬ blk (insB Bf Dd) B b → upd H5 Dd (.lst (xs ++ [v])) b = some o ∧ ¬ blk (insB Bf Dd) B b := fun B _ b o e t n =>
              ⟨by rw [upd_ne fun z => n (.inl (.inr z))]; exact e, n⟩
            have smD : ∀ b, H5 b ≠ none → upd H5 Dd (.lst (xs ++ [v])) b ≠ none := fun b hb => by
              by_cases z : b = Dd
              · rw [z, upd_same]
                exact fun z => nomatch z
              · rw [upd_ne z]
                exact hb
            have k6 : Ok P (insB Bf Dd) ow5 en5 σ3 (upd H5 Dd (.lst (xs ++ [v]))) :=
              ⟨k5.hlen, fun i d e => let ⟨w, g1, g2⟩ := k5.hva i d e; ⟨w, g1, g2.move (mvD ow5 nD5)⟩, fun i d e => let ⟨w, g1, g2⟩ := k5.hvn i d e; ⟨w, g1, g2.move fun b o e t n => ⟨(mvD ow5 nD5 b o e t fun z => n (.inl z)).1, n⟩⟩, fun i s e f => let ⟨a, g1, g2, g3⟩ := k5.hob i s e f; ⟨a, g1, g2, g3.move (fun o e _ => by rw [upd_ne fun z => nD5 i (by rw [← z]; exact g1)]; exact e) (mvD ow5 nD5)⟩,
                k5.hdom, k5.hinj, fun b z => smD b (k5.hbf b z), fun b z => smD b (k5.hod b z), k5.hloc, tabs_upd k5.htab eD5 (fun _ z => nomatch z) fun _ z => nomatch z⟩
            have r6 : Rel P H1 ow1 (upd H5 Dd (.lst (xs ++ [v]))) ow5 := by
              have r15 := (r13.trans r4).trans r5
              exact ⟨fun b o e t n => ⟨by
                rw [upd_ne fun z => by rw [z, hD] at e; cases e]
                exact (r15.hkeep b o e t n).1, (r15.hkeep b o e t n).2⟩, fun b hb => smD b (r15.hsome b hb), r15.hpin, r15.hsub⟩
            obtain ⟨ow7, k7, r7⟩ := Ok.wipe k6 vs hvP
            rw [w3] at k7
            exact ⟨hlt, ow7, _, _, _, k7, r6.trans r7, fun j z => nD5 j (r7.hsub j _ z), upd_same, r7.rpl ((rs5.append (.cons p5 .nil)).move (mvD ow5 nD5)), fun i hi s e => wipeE_un vs _ i hi s e, e2⟩
  · have e : i = ds.length := by omega
    subst e
    rw [List.drop_length] at e2
    cases e2
    refine .inl ⟨W.2 rfl, ?_⟩
    have hD0 : H Dd = none := by
      cases z : H Dd with
      | none => rfl
      | some o => exact absurd hD (r1.hsome Dd (by rw [z]; exact fun z => nomatch z))
    have nb0 := k1.nb hD
    exact q Dd xs ow2 H2 (k2.unwipe un2) (r1.trans r2) (fun z => nb0 (.inl z)) (fun z => k1.hod Dd z hD) nD hD0 eD rs
end
end VL

namespace VL
open PySem PySem.Spec
open PyProof.Rows L2

section
variable {X : Cx} {P : Pl} {a b e elt tg iter : Expr} {es ifs : List Expr} {fa fb : FE} {ga : FA} {pos apos cpos p : Pos} {scope : Scope} {own : List (Str × Nat)}
/-! ### comprehensions: as a value, as what a name gets -/
theorem vf_lc {fi : FL} {g : FG} {tt : FT} {te : FE} {ts vs : List Nat} (hc : X.calm = true) (hN : X.N.Nodup) (hi : VI X P tg iter fi) (ok : BlkOk X.N X.env.scope scope own)
    (hvs : own.map (·.2) = vs) (hvP : ∀ i ∈ vs, i ∉ P) (hts : ∀ i ∈ ts, i ∈ vs)
    (hg : ∀ (s : Shared) (H : Hp) (C : Addr) (cl : List (Str × Addr)) (fp : List Addr), VG (X.blk s H scope (compEnvC scope cl C X.env) fp) P tg ts g) (ht : ∀ (s : Shared) (H : Hp) (C : Addr) (cl : List (Str × Addr)) (fp : List Addr), VTs (X.blk s H scope (compEnvC scope cl C X.env) fp) P ifs tt)
    (he : ∀ (s : Shared) (H : Hp) (C : Addr) (cl : List (Str × Addr)) (fp : List Addr), VE (X.blk s H scope (compEnvC scope cl C X.env) fp) P elt te) (hs : ∀ x, foldedSetIterable iter X.env x = pure x := by intro _; rfl) :
    VF X P (.ListComp elt [⟨tg, iter, ifs, 0⟩] scope pos) (lComp fi g tt te vs) :=
  PE.weak (pe_lc hc hN hi ok hg ht he hs) (by rw [hvs]; exact tvF_lc hvP hts)
theorem own_reads {f : FL} {t : TE} {i : Nat} (hP : i ∉ P) (w : ∀ σ H Q, tvF P f σ H Q → t σ H Q) (Dn : Ends) (σ : L2.St) (H : Hp) (h : tvS P (sOwn i f) Dn σ H) : tAsg t (gName i) Dn σ H := by
  refine w σ H _ ?_
  obtain ⟨Bf, ow, en, k, o, hf, q⟩ := h
  unfold sOwn at hf
  split at hf <;> first | cases hf | skip
  rename_i ds en1 h1
  split at hf <;> first | cases hf | skip
  rename_i hl
  exact ⟨Bf, ow, en, k, _, _, h1, fun p xs ow1 H1 k1 r1 b1 b2 b3 b4 hp rs => q _ _ _ (k1.put hP hl b1 b2 b3 hp rs) (put_rel hP r1 b4)⟩
theorem set_reads {f : FL} {t : TE} {i : Nat} (hP : i ∉ P) (w : ∀ σ H Q, tvF P f σ H Q → t σ H Q) (Dn : Ends) (σ : L2.St) (H : Hp) (h : tvS P (sSet i (eNew f)) Dn σ H) : tAsg t (gName i) Dn σ H := by
  refine w σ H _ ?_
  obtain ⟨Bf, ow, en, k, o, hf, q⟩ := h
  unfold sSet eNew at hf
  cases h0 : f en with
  | none => rw [h0] at hf; cases hf
  | some r =>
    obtain ⟨ds, en1⟩ := r
    rw [h0] at hf
    simp only at hf
    cases hf
    refine ⟨Bf, ow, en, k, ds, en1, h0, fun p xs ow1 H1 k1 r1 b1 b2 b3 b4 hp rs => ?_⟩
    have p1 : Rp H1 (blk Bf ow1) (.list ds) (.ref p) := .lst (new_nb b1 b3) (.inl hp) rs.unins
    have p2 := p1.move (H' := H1) (B' := blk Bf (dropOw ow1 i)) fun b o e t n => ⟨e, fun z => n (dropOw_blk z)⟩
    exact q _ _ _ (k1.unins.set hP p2) (r1.trans (dropOw_rel hP)).s
section
variable {fi : FL} {g : FG} {tt : FT} {te : FE} {ts vs : List Nat} {i : Nat} {y : Str} {py spos : Pos}
theorem vs_ownLc (hc : X.calm = true) (hN : X.N.Nodup) (hy : X.N[i]? = some y) (hyl : X.env.scope.names.lookup y = some .local) (hP : i ∉ P)
    (hsw : swapsWith (.ListComp elt [⟨tg, iter, ifs, 0⟩] scope pos) (some (.Name y py)) spos.line X.env = pure true) (hi : VI X P tg iter fi) (ok : BlkOk X.N X.env.scope scope own)
    (hvs : own.map (·.2) = vs) (hvP : ∀ i ∈ vs, i ∉ P) (hts : ∀ i ∈ ts, i ∈ vs)
    (hg : ∀ (s : Shared) (H : Hp) (C : Addr) (cl : List (Str × Addr)) (fp : List Addr), VG (X.blk s H scope (compEnvC scope cl C X.env) fp) P tg ts g) (ht : ∀ (s : Shared) (H : Hp) (C : Addr) (cl : List (Str × Addr)) (fp : List Addr), VTs (X.blk s H scope (compEnvC scope cl C X.env) fp) P ifs tt)
    (he : ∀ (s : Shared) (H : Hp) (C : Addr) (cl : List (Str × Addr)) (fp : List Addr), VE (X.blk s H scope (compEnvC scope cl C X.env) fp) P elt te) (hs : ∀ x, foldedSetIterable iter X.env x = pure x := by intro _; rfl) :
    VS X P (.Assign [.Name y py] (.ListComp elt [⟨tg, iter, ifs, 0⟩] scope pos) spos) (sOwn i (lComp fi g tt te vs)) :=
  PS.weak (ps_setLc hc hN hy hyl hsw hi ok hg ht he hs) (own_reads hP (by rw [hvs]; exact tvF_lc hvP hts))
theorem vs_setLc (hc : X.calm = true) (hN : X.N.Nodup) (hy : X.N[i]? = some y) (hyl : X.env.scope.names.lookup y = some .local) (hP : i ∉ P)
    (hsw : swapsWith (.ListComp elt [⟨tg, iter, ifs, 0⟩] scope pos) (some (.Name y py)) spos.line X.env = pure true) (hi : VI X P tg iter fi) (ok : BlkOk X.N X.env.scope scope own)
    (hvs : own.map (·.2) = vs) (hvP : ∀ i ∈ vs, i ∉ P) (hts : ∀ i ∈ ts, i ∈ vs)
    (hg : ∀ (s : Shared) (H : Hp) (C : Addr) (cl : List (Str × Addr)) (fp : List Addr), VG (X.blk s H scope (compEnvC scope cl C X.env) fp) P tg ts g) (ht : ∀ (s : Shared) (H : Hp) (C : Addr) (cl : List (Str × Addr)) (fp : List Addr), VTs (X.blk s H scope (compEnvC scope cl C X.env) fp) P ifs tt)
    (he : ∀ (s : Shared) (H : Hp) (C : Addr) (cl : List (Str × Addr)) (fp : List Addr), VE (X.blk s H scope (compEnvC scope cl C X.env) fp) P elt te) (hs : ∀ x, foldedSetIterable iter X.env x = pure x := by intro _; rfl) :
    VS X P (.Assign [.Name y py] (.ListComp elt [⟨tg, iter, ifs, 0⟩] scope pos) spos) (sSet i (eNew (lComp fi g tt te vs))) :=
  PS.weak (ps_setLc hc hN hy hyl hsw hi ok hg ht he hs) (set_reads hP (by rw [hvs]; exact tvF_lc hvP hts))
end

/-! ### built-ins by data -/
def gLen : List D → Option D
  | [.list xs] => some (.int xs.length)
  | [.tuple xs] => some (.int xs.length)
  | [.str y] => if y.length ≤ sizeLine then some (.int y.length) else none
  | _ => none
theorem ca_len {K : PySem.W.Frag} : CaV (fun xs H Q => ∃ x n, xs = [x] ∧ LenV K x H n ∧ Q (.int n) H) gLen := by
  intro H B ds d vs Q e r nb q
  unfold gLen at e
  split at e
  · cases e
    cases r with
    | cons p r =>
      cases r
      cases p with
      | lst n1 d1 s1 => exact ⟨_, _, rfl, .inl ⟨_, .inl d1, rfl⟩, q _ H .refl (by rw [← s1.length]; exact .int _)⟩
  · cases e
    cases r with
    | cons p r =>
      cases r
      cases p with
      | tup n1 d1 s1 => exact ⟨_, _, rfl, .inr ⟨_, SqT.of d1, rfl⟩, q _ H .refl (by rw [← s1.length]; exact .int _)⟩
  · split at e <;> first | cases e | skip
    rename_i hy
    cases r with
    | cons p r =>
      cases r
      cases p
      exact ⟨_, _, rfl, ⟨hy, rfl⟩, q _ H .refl (.int _)⟩
  · cases e
def gMax2 : List D → Option D
  | [.int i, .int j] => some (.int (if j > i then j else i))
  | _ => none
def gMin2 : List D → Option D
  | [.int i, .int j] => some (.int (if j < i then j else i))
  | _ => none
theorem ca_max2 : CaV (fun xs H Q => ∃ i j, xs = [.int i, .int j] ∧ Q (.int (if j > i then j else i)) H) gMax2 := by
  intro H B ds d vs Q e r nb q
  unfold gMax2 at e
  split at e <;> first | cases e | skip
  cases r with
  | cons p r =>
    cases r with
    | cons p2 r =>
      cases r
      cases p
      cases p2
      exact ⟨_, _, rfl, q _ H .refl (.int _)⟩
theorem ca_min2 : CaV (fun xs H Q => ∃ i j, xs = [.int i, .int j] ∧ Q (.int (if j < i then j else i)) H) gMin2 := by
  intro H B ds d vs Q e r nb q
  unfold gMin2 at e
  split at e <;> first | cases e | skip
  cases r with
  | cons p r =>
    cases r with
    | cons p2 r =>
      cases r
      cases p
      cases p2
      exact ⟨_, _, rfl, q _ H .refl (.int _)⟩
def gInt : List D → Option D
  | [.int i] => some (.int i)
  | [.bool b] => some (.int (if b then 1 else 0))
  | _ => none
theorem ca_int : CaV (fun xs H Q => (∃ i, xs = [V.int i] ∧ Q (.int i) H) ∨ ∃ k, xs = [V.bl k] ∧ Q (.int (if k then 1 else 0)) H) gInt := by
  intro H B ds d vs Q e r nb q
  unfold gInt at e
  split at e
  · cases e
    cases r with
    | cons p r =>
      cases r
      cases p
      exact .inl ⟨_, rfl, q _ H .refl (.int _)⟩
  · cases e
    cases r with
    | cons p r =>
      cases r
      cases p
      exact .inr ⟨_, rfl, q _ H .refl (.int _)⟩
  · cases e
def gStr : List D → Option D
  | [.int i] => if i.natAbs.log2 < 1920 then some (.str (toString i)) else none
  | _ => none
theorem ca_str : CaV (fun xs H Q => ∃ i : Int, xs = [V.int i] ∧ i.natAbs.log2 < 1920 ∧ Q (.str (toString i)) H) gStr := by
  intro H B ds d vs Q e r nb q
  unfold gStr at e
  split at e <;> first | cases e | skip
  split at e <;> first | cases e | skip
  rename_i h
  cases r with
  | cons p r =>
    cases r
    cases p
    exact ⟨_, rfl, h, q _ H .refl (.str _)⟩
def gSum : List D → Option D
  | [.list xs] => match intsOf xs with
    | some ns => some (.int ns.sum)
    | none => none
  | _ => none
theorem ca_sum {K : PySem.W.Frag} : CaV (rSum K) gSum := by
  intro H B ds d vs Q e r nb q
  unfold gSum at e
  split at e <;> first | cases e | skip
  split at e <;> first | cases e | skip
  rename_i ns h
  have := intsOf_eq h
  subst this
  cases r with
  | cons p r =>
    cases r
    cases p with
    | lst n1 d1 s1 =>
      have := s1.ints
      subst this
      exact ⟨_, ns, rfl, .inl d1, q _ H .refl (.int _)⟩
def boolsOf : List D → Option (List Bool)
  | [] => some []
  | .bool i :: r => (boolsOf r).map (i :: ·)
  | _ => none
theorem boolsOf_eq : ∀ {ds : List D} {ns : List Bool}, boolsOf ds = some ns → ds = ns.map .bool
  | [], ns, h => by cases h; rfl
  | .bool i :: r, ns, h => by
    cases e : boolsOf r with
    | none => simp [boolsOf, e] at h
    | some ms =>
      simp [boolsOf, e] at h
      subst h
      rw [boolsOf_eq e]
      rfl
  | .none :: r, _, h => by simp [boolsOf] at h
  | .int _ :: r, _, h => by simp [boolsOf] at h
  | .str _ :: r, _, h => by simp [boolsOf] at h
  | .list _ :: r, _, h => by simp [boolsOf] at h
  | .tuple _ :: r, _, h => by simp [boolsOf] at h
  | .dict _ :: r, _, h => by simp [boolsOf] at h
theorem boolsOf_map : ∀ ns : List Bool, boolsOf (ns.map .bool) = some ns
  | [] => rfl
  | n :: ns => by simp [boolsOf, boolsOf_map ns]
def gAll : List D → Option D
  | [.list xs] => match boolsOf xs with
    | some ns => some (.bool (ns.all id))
    | none => none
  | _ => none
def gAny : List D → Option D
  | [.list xs] => match boolsOf xs with
    | some ns => some (.bool (ns.any id))
    | none => none
  | _ => none
theorem ca_all {K : PySem.W.Frag} : CaV (rAll K) gAll := by
  intro H B ds d vs Q e r nb q
  unfold gAll at e
  split at e <;> first | cases e | skip
  split at e <;> first | cases e | skip
  rename_i ns h
  have := boolsOf_eq h
  subst this
  cases r with
  | cons p r =>
    cases r
    cases p with
    | lst n1 d1 s1 =>
      have := s1.bools
      subst this
      exact ⟨_, ns, rfl, .inl d1, q _ H .refl (.bl _)⟩
theorem ca_any {K : PySem.W.Frag} : CaV (rAny K) gAny := by
  intro H B ds d vs Q e r nb q
  unfold gAny at e
  split at e <;> first | cases e | skip
  split at e <;> first | cases e | skip
  rename_i ns h
  have := boolsOf_eq h
  subst this
  cases r with
  | cons p r =>
    cases r
    cases p with
    | lst n1 d1 s1 =>
      have := s1.bools
      subst this
      exact ⟨_, ns, rfl, .inl d1, q _ H .refl (.bl _)⟩
def gListOf : List D → Option (List D)
  | [.list xs] => some xs
  | [.tuple xs] => some xs
  | _ => none
theorem ca_list {K : PySem.W.Frag} : CaL (fun xs H Q => ∃ p ys, xs = [V.ref p] ∧ (SqL K H p ys ∨ SqT K H p ys) ∧ ∀ l, H l = none → Q (.ref l) (upd H l (.lst ys))) gListOf := by
  intro H B ds d vs Q e r q
  unfold gListOf at e
  split at e
  · cases e
    cases r with
    | cons p r =>
      cases r
      cases p with
      | lst n1 d1 s1 => exact ⟨_, _, rfl, .inl (.inl d1), fun l hl => q l _ hl s1⟩
  · cases e
    cases r with
    | cons p r =>
      cases r
      cases p with
      | tup n1 d1 s1 => exact ⟨_, _, rfl, .inr (SqT.of d1), fun l hl => q l _ hl s1⟩
  · cases e
def gTupOf : List D → Option D
  | [.list xs] => some (.tuple xs)
  | [.tuple xs] => some (.tuple xs)
  | _ => none
theorem ca_tuple {K : PySem.W.Frag} : CaV (fun xs H Q => ∃ p ys, xs = [V.ref p] ∧ ((SqL K H p ys ∧ ∀ l, H l = none → Q (.ref l) (upd H l (.tup ys))) ∨ (SqT K H p ys ∧ Q (.ref p) H))) gTupOf := by
  intro H B ds d vs Q e r nb q
  unfold gTupOf at e
  split at e
  · cases e
    cases r with
    | cons p r =>
      cases r
      cases p with
      | lst n1 d1 s1 => exact ⟨_, _, rfl, .inl ⟨.inl d1, fun l hl => q _ _ (.upd hl) (.tup (nb l hl) upd_same ((Ext.upd hl).rpl s1))⟩⟩
  · cases e
    cases r with
    | cons p r =>
      cases r
      cases p with
      | tup n1 d1 s1 => exact ⟨_, _, rfl, .inr ⟨SqT.of d1, q _ H .refl (.tup n1 d1 s1)⟩⟩
  · cases e

/-! ### slices of lists and tuples -/
def cutD (xs : List D) (lo hi : Option Int) : List D := (xs.drop (HT.sIx xs.length 0 lo)).take (HT.sIx xs.length xs.length hi - HT.sIx xs.length 0 lo)
abbrev FO := En → Option (Option Int × En)
def tvO (P : Pl) (f : FO) : TO := fun σ H Q => ∃ Bf ow en, Ok P Bf ow en σ H ∧ ∃ o en', f en = some (o, en') ∧ ∀ ow' H', Ok P Bf ow' en' σ H' → Rel P H ow H' ow' → Q o H'
def VO (X : Cx) (P : Pl) (e : Option Expr) (f : FO) : Prop := PO X e (tvO P f)
def oNone : FO := fun en => some (none, en)
def oSome (f : FE) : FO := fun en => match f en with
  | some (.int i, en1) => some (some i, en1)
  | _ => none
theorem PO.weak {e : Option Expr} {t t' : TO} (h : PO X e t) (w : ∀ σ H Q, t' σ H Q → t σ H Q) : PO X e t' :=
  ⟨fun pins s σ H Q I q => h.run pins s σ H Q I (w σ H Q q)⟩
theorem vo_none : VO X P none oNone := PO.weak po_none fun σ H Q h => by
  obtain ⟨Bf, ow, en, k, o, en', hf, q⟩ := h
  cases hf
  exact q ow H k .refl
theorem vo_some (h : VE X P e fa) : VO X P (some e) (oSome fa) := PO.weak (po_some h) fun σ H Q h => by
  obtain ⟨Bf, ow, en, k, o, en', hf, q⟩ := h
  unfold oSome at hf
  split at hf <;> first | cases hf | skip
  rename_i i h1
  exact ⟨Bf, ow, en, k, _, _, h1, fun v ow1 H1 k1 r1 p1 => by
    cases p1
    exact ⟨_, rfl, q ow1 H1 k1 r1⟩⟩
theorem RpL.cut {H : Hp} {B : Addr → Prop} {ds : List D} {xs : List V} (rs : RpL H B ds xs) (lo hi : Option Int) : RpL H B (cutD ds lo hi) (cutV xs lo hi) := by
  unfold cutD cutV
  rw [← rs.length]
  exact (rs.drop _).take _
def sliceD : D → Option Int → Option Int → Option D
  | .list xs, lo, hi => some (.list (cutD xs lo hi))
  | .tuple xs, lo, hi => if (cutD xs lo hi).length < xs.length then some (.tuple (cutD xs lo hi)) else none
  | _, _, _ => none
def eSl (f : FE) (fl fh : FO) : FE := fun en => match f en with
  | some (d, en1) => match fl en1 with
    | some (lo, en2) => match fh en2 with
      | some (hi, en3) => match sliceD d lo hi with
        | some z => some (z, en3)
        | none => none
      | none => none
    | none => none
  | none => none
theorem sIx_full {α : Type} (xs : List α) (lo hi : Option Int) (h1 : HT.sIx xs.length 0 lo = 0) (h2 : HT.sIx xs.length xs.length hi = xs.length) : (xs.drop (HT.sIx xs.length 0 lo)).take (HT.sIx xs.length xs.length hi - HT.sIx xs.length 0 lo) = xs := by
  rw [h1, h2]
  simp
theorem ve_slice {lo hi : Option Expr} {fl fh : FO} {p2 : Pos} (he : VE X P e fa) (hl : VO X P lo fl) (hu : VO X P hi fh) : VE X P (.Subscript e (.Slice lo hi none p2) pos) (eSl fa fl fh) :=
  PE.weak (pe_slice (sl_list.or sl_tup) he hl hu) fun σ H Q h => by
    obtain ⟨Bf, ow, en, k, d, en', hf, q⟩ := h
    unfold eSl at hf
    split at hf <;> first | cases hf | skip
    rename_i d0 en1 h0
    split at hf <;> first | cases hf | skip
    rename_i lo' en2 h1
    split at hf <;> first | cases hf | skip
    rename_i hi' en3 h2
    split at hf <;> first | cases hf | skip
    rename_i z h3
    refine ⟨Bf, ow, en, k, _, _, h0, fun v ow1 H1 k1 r1 p1 => ⟨Bf, ow1, en1, k1, _, _, h1, fun ow2 H2 k2 r2 => ⟨Bf, ow2, en2, k2, _, _, h2, fun ow3 H3 k3 r3 => ?_⟩⟩⟩
    have p3 := r3.rp (r2.rp p1)
    unfold sliceD at h3
    split at h3
    · cases h3
      cases p3 with
      | lst nb rd rs =>
        refine .inl ⟨_, _, rfl, .inl rd, fun pp hp => ?_⟩
        have rc := rs.cut lo' hi'
        exact q _ ow3 _ (k3.ext (.upd hp)) ((r1.trans (r2.trans r3)).trans (Ext.upd hp).rel) (.lst (k3.nb hp) (.inl upd_same) ((Ext.upd hp).rpl rc))
    · split at h3 <;> first | cases h3 | skip
      rename_i hlt
      cases p3 with
      | tup nb rd rs =>
        refine .inr ⟨_, _, rfl, SqT.of rd, ?_, fun pp hp => ?_⟩
        · rintro ⟨z1, z2⟩
          rw [← rs.length] at z1 z2
          unfold cutD at hlt
          rw [sIx_full _ lo' hi' z1 z2] at hlt
          exact Nat.lt_irrefl _ hlt
        · have rc := rs.cut lo' hi'
          exact q _ ow3 _ (k3.ext (.upd hp)) ((r1.trans (r2.trans r3)).trans (Ext.upd hp).rel) (.tup (k3.nb hp) upd_same ((Ext.upd hp).rpl rc))
    · cases h3

/-! ### isinstance, type -/
def tyNames : List String := ["NoneType", "int", "bool", "str", "list", "tuple", "dict"]
def typD : D → String
  | .none => "NoneType"
  | .bool _ => "bool"
  | .int _ => "int"
  | .str _ => "str"
  | .list _ => "list"
  | .tuple _ => "tuple"
  | .dict _ => "dict"
def isiD (d : D) (T : String) : Bool := decide (typD d = T) || (decide (typD d = "bool") && decide (T = "int"))
theorem Rp.tyx {K : PySem.W.Frag} {H : Hp} {B : Addr → Prop} {d : D} {v : V} (r : Rp H B d v) : TyX K H v (.type (typD d)) := by
  cases r with
  | non => exact .base .non
  | bl b => exact .base (.bl b)
  | int i => exact .base (.int i)
  | str x => exact .base (.str x)
  | lst nb rd rs =>
    rcases rd with rd | ⟨o, rd⟩
    · exact .base (.lst rd)
    · exact .base (.frz rd)
  | tup nb rd rs => exact .base (.tup rd)
def isT : List String := ["int", "bool", "str", "list", "tuple"]
theorem kit_names {a T : String} (ha : a ∈ tyNames) (hT : T ∈ isT) : kitB a T = some (decide (a = T) || (decide (a = "bool") && decide (T = "int"))) := by
  unfold isT at hT
  unfold tyNames at ha
  simp only [List.mem_cons, List.not_mem_nil, or_false] at hT ha
  rcases ha with rfl | rfl | rfl | rfl | rfl | rfl | rfl <;> rcases hT with rfl | rfl | rfl | rfl | rfl <;> decide +kernel
theorem typD_in (d : D) : typD d ∈ tyNames := by cases d <;> simp [typD, tyNames]
theorem kit_all {K : PySem.W.Frag} {d : D} {T : String} (hT : T ∈ isT) : PySem.W.kitOne K (.type (typD d)) (.type T) = some (isiD d T) := kit_ty (kit_names (typD_in d) hT)
def eIsi (T : String) (f : FE) : FE := fun en => match f en with
  | some (d, en1) => some (.bool (isiD d T), en1)
  | none => none
theorem ve_isi {T : String} {x : Str} {p1 p2 : Pos} (hT : T ∈ isT) (hg : Gl X "isinstance") (hm : X.mg "isinstance" = none) (hgT : Gl X x) (hmT : X.mg x = none) (hbT : bootBuiltins x = some (.type T)) (he : VE X P e fa)
    (hnT : x ≠ "__name__" := by decide) (hdT : (x == ("__debug__" : Str)) = false := by decide)
    (hst : starEach [e, .Name x p2] X.env = (false, eval e X.env) :: starEach [.Name x p2] X.env := by rfl) (hst2 : starEach [.Name x p2] X.env = (false, eval (.Name x p2) X.env) :: starEach [] X.env := by rfl) (hpl : (backTo pos (starEach [.Name x p2] X.env)).any (·.1) = false := by rfl) :
    VE X P (.Call (.Name "isinstance" p1) [e, .Name x p2] [] pos) (eIsi T fa) :=
  PE.weak (pe_callB call_isi hg hm (by decide +kernel) (pa_cons he (pa_cons (pe_bltn (v := .ty T) hgT hmT hbT rfl hnT hdT) pa_nil hst2) hst) (by decide) (by decide) hst hpl) fun σ H Q h => by
    obtain ⟨Bf, ow, en, k, d, en', hf, q⟩ := h
    unfold eIsi at hf
    split at hf <;> first | cases hf | skip
    rename_i d1 en1 h1
    exact ⟨Bf, ow, en, k, _, _, h1, fun v ow1 H1 k1 r1 p1 => ⟨v, .ty T, _, _, _, rfl, .ty T, p1.tyx, kit_all hT, q _ ow1 H1 k1 r1 (.bl _)⟩⟩
def eIsi2 (T U : String) (f : FE) : FE := fun en => match f en with
  | some (d, en1) => some (.bool (isiD d T || isiD d U), en1)
  | none => none
theorem ve_isi2 {T U : String} {x y : Str} {kk : Nat} {p1 p2 p3 p4 : Pos} (hT : T ∈ isT) (hU : U ∈ isT) (hg : Gl X "isinstance") (hm : X.mg "isinstance" = none) (hgT : Gl X x) (hmT : X.mg x = none) (hbT : bootBuiltins x = some (.type T)) (hgU : Gl X y) (hmU : X.mg y = none) (hbU : bootBuiltins y = some (.type U)) (he : VE X P e fa)
    (hnT : x ≠ "__name__" := by decide) (hdT : (x == ("__debug__" : Str)) = false := by decide) (hnU : y ≠ "__name__" := by decide) (hdU : (y == ("__debug__" : Str)) = false := by decide)
    (hst : starEach [e, .Tuple [.Name x p2, .Name y p3] kk p4] X.env = (false, eval e X.env) :: starEach [.Tuple [.Name x p2, .Name y p3] kk p4] X.env := by rfl) (hst2 : starEach [.Tuple [.Name x p2, .Name y p3] kk p4] X.env = (false, eval (.Tuple [.Name x p2, .Name y p3] kk p4) X.env) :: starEach [] X.env := by rfl) (hpl : (backTo pos (starEach [.Tuple [.Name x p2, .Name y p3] kk p4] X.env)).any (·.1) = false := by rfl)
    (hsa : starEach [.Name x p2, .Name y p3] X.env = (false, eval (.Name x p2) X.env) :: starEach [.Name y p3] X.env := by rfl) (hsb : starEach [.Name y p3] X.env = (false, eval (.Name y p3) X.env) :: starEach [] X.env := by rfl) :
    VE X P (.Call (.Name "isinstance" p1) [e, .Tuple [.Name x p2, .Name y p3] kk p4] [] pos) (eIsi2 T U fa) :=
  PE.weak (pe_callB call_isiT hg hm (by decide +kernel) (pa_cons he (pa_cons (pe_tup (pa_cons (pe_bltn (v := .ty T) hgT hmT hbT rfl hnT hdT) (pa_cons (pe_bltn (v := .ty U) hgU hmU hbU rfl hnU hdU) pa_nil hsb) hsa)) pa_nil hst2) hst) (by decide) (by decide) hst hpl) fun σ H Q h => by
    obtain ⟨Bf, ow, en, k, d, en', hf, q⟩ := h
    unfold eIsi2 at hf
    split at hf <;> first | cases hf | skip
    rename_i d1 en1 h1
    refine ⟨Bf, ow, en, k, _, _, h1, fun v ow1 H1 k1 r1 p1 => ⟨by show 2 ≤ sizeLine; decide, fun t ht => ?_⟩⟩
    have p2 := (Ext.upd (o := .tup [.ty T, .ty U]) ht).rp p1
    refine ⟨v, t, _, _, _, _, rfl, upd_same, .cons (.ty T) (.cons (.ty U) .nil), p2.tyx, ?_, q _ ow1 _ (k1.ext (.upd ht)) (r1.trans (Ext.upd ht).rel) (.bl _)⟩
    refine kitAny_cons (kit_all hT) (fun z => ?_) (fun z => by rw [z]; rfl)
    rw [z, Bool.false_or]
    refine kitAny_cons (kit_all hU) (fun z => ?_) (fun z => z)
    rw [z]
    exact kitAny_nil
end
theorem slot_type_ne : Slot "type" "__ne__" "object.__ne__" :=
  .of (owner := "object") (n := "__ne__") (by rw [typeLookup_type, builtinLookup_eq_fast]; kernel_rfl) (by decide +kernel) (by decide +kernel) (by decide +kernel)
    (by first | exact .inl (by decide +kernel) | exact .inr (by decide +kernel)) (by rw [isSubtype_type]; kernel_rfl)
section
variable {prog : Program} {w : World} {A : Around} {E : Value → Shared → Prop} {s : Shared} {X Y : String}
theorem ty_eq_same (hX : ∀ s' : Shared, s'.TypeIs (.type X) "type") {Q : Option Value → Shared → Prop} (h : Q (some (.bool true)) s) : wpAny (model prog w) A (callSpecialIfBound? (.type X) "__eq__" [.type X]) Q E s :=
  wpAny_callSpecialIfBound?_slot (hX s) TypeEq.slot_type_eq (call_gives TypeEq.slot_type_eq (hX s) F.entry_object_eq (F.args_object_eq_2 _ _) (TypeEq.object_eq_same rfl (by simp)) h)
theorem ty_eq_other (hX : ∀ s' : Shared, s'.TypeIs (.type X) "type") (hne : (Value.type X == Value.type Y) = false) {Q : Option Value → Shared → Prop} (h : Q (some .notImplemented) s) : wpAny (model prog w) A (callSpecialIfBound? (.type X) "__eq__" [.type Y]) Q E s :=
  wpAny_callSpecialIfBound?_slot (hX s) TypeEq.slot_type_eq (call_gives TypeEq.slot_type_eq (hX s) F.entry_object_eq (F.args_object_eq_2 _ _) (TypeEq.object_eq_other rfl hne) h)
theorem ty_ne_same (hX : ∀ s' : Shared, s'.TypeIs (.type X) "type") (hu : A.units + 2 < cLine) {Q : Option Value → Shared → Prop} (h : Q (some (.bool false)) s) : wpAny (model prog w) A (tryCompare (.type X) "__ne__" (.type X)) Q E s := by
  simp only [tryCompare]
  refine wpAny_bind (wpAny_callSpecialIfBound?_slot (hX s) slot_type_ne (wpAny_call (codeAny_call_builtin slot_type_ne.plain F.cmpEntry_ne (slot_type_ne.check _ _ _ _ _ _ _ _ (hX s) (F.cmpArgs_ne _ _) ?_))))
  unfold Builtin.«object.__ne__»
  repeat (first | with_reducible refine wpAny_cRoomFor (by show A.units + 1 < cLine; omega) ?_ | with_reducible refine ty_eq_same hX ?_ | wp_step)
  exact h
theorem ty_ne_other (hX : ∀ s' : Shared, s'.TypeIs (.type X) "type") (hne : (Value.type X == Value.type Y) = false) (hu : A.units + 2 < cLine) {Q : Option Value → Shared → Prop} (h : Q none s) : wpAny (model prog w) A (tryCompare (.type X) "__ne__" (.type Y)) Q E s := by
  simp only [tryCompare]
  refine wpAny_bind (wpAny_callSpecialIfBound?_slot (hX s) slot_type_ne (wpAny_call (codeAny_call_builtin slot_type_ne.plain F.cmpEntry_ne (slot_type_ne.check _ _ _ _ _ _ _ _ (hX s) (F.cmpArgs_ne _ _) ?_))))
  unfold Builtin.«object.__ne__»
  repeat (first | with_reducible refine wpAny_cRoomFor (by show A.units + 1 < cLine; omega) ?_ | with_reducible refine ty_eq_other hX hne ?_ | wp_step)
  exact h
theorem ne_type (hX : ∀ s' : Shared, s'.TypeIs (.type X) "type") (hY : ∀ s' : Shared, s'.TypeIs (.type Y) "type") (hu : A.units + 2 < cLine) {Q : Value → Shared → Prop} (h : Q (.bool (!(Value.type X == Value.type Y))) s) : wpAny (model prog w) A (compareOp .NotEq (.type X) (.type Y)) Q E s := by
  show wpAny _ A (richCompare .NotEq _ _) Q E s
  unfold richCompare
  rw [(hX s).oneThing_none]
  refine wpAny_holding ?_
  refine wpAny_bind (wpAny_cRoomFor_or (.inl rfl) ?_)
  refine wpAny_bind (wpAny_typeOf (hX s) (wpAny_bind (wpAny_typeOf (hY s) ?_)))
  simp only [bne_self_eq_false, Bool.false_eq_true, if_false, pure_bind, Bool.not_false, if_true]
  by_cases e : X = Y
  · subst e
    refine wpAny_bind (m := tryCompare (.type X) _ (.type X)) (ty_ne_same hX hu ?_)
    rw [show (Value.type X == Value.type X) = true by simp] at h
    exact wpAny_pure h
  · have hne : (Value.type X == Value.type Y) = false := by simpa using e
    have hne' : (Value.type Y == Value.type X) = false := by simpa using fun z => e z.symm
    refine wpAny_bind (m := tryCompare (.type X) _ (.type Y)) (ty_ne_other hX hne hu ?_)
    refine wpAny_bind (m := tryCompare (.type Y) _ (.type X)) (ty_ne_other hY hne' hu ?_)
    refine wpAny_bind (wpAny_rule (wpAny_bind (wpAny_of_eq (isSame_plain rfl) (wpAny_pure h))))
theorem eq_type (hX : ∀ s' : Shared, s'.TypeIs (.type X) "type") (hY : ∀ s' : Shared, s'.TypeIs (.type Y) "type") {Q : Value → Shared → Prop} (h : Q (.bool (Value.type X == Value.type Y)) s) : wpAny (model prog w) A (compareOp .Eq (.type X) (.type Y)) Q E s := by
  by_cases e : X = Y
  · subst e
    rw [show (Value.type X == Value.type X) = true by simp] at h
    exact TypeEq.eq_type_same hX h
  · have hne : (Value.type X == Value.type Y) = false := by simpa using e
    rw [hne] at h
    exact TypeEq.eq_type_other hX hY hne h
end
section
variable {X : Cx} {P : Pl} {e : Expr} {fa : FE} {pos : Pos}
theorem meta_of {T : String} (h : T ∈ tyNames) (s' : Shared) : s'.TypeIs (.type T) "type" := by
  unfold tyNames at h
  simp only [List.mem_cons, List.not_mem_nil, or_false] at h
  rcases h with rfl | rfl | rfl | rfl | rfl | rfl | rfl
  · exact TypeEq.meta_NoneType s'
  · exact TypeEq.meta_int s'
  · exact TypeEq.meta_bool s'
  · exact TypeEq.meta_str s'
  · exact TypeEq.meta_list s'
  · exact TypeEq.meta_tuple s'
  · exact TypeEq.meta_dict s'
theorem Rp.tyb {K : PySem.W.Frag} {H : Hp} {B : Addr → Prop} {d : D} {v : V} (r : Rp H B d v) : TyB K H v (typD d) := by
  cases r with
  | non => exact .non
  | bl b => exact .bl b
  | int i => exact .int i
  | str x => exact .str x
  | lst nb rd rs => exact .lst (.inl rd)
  | tup nb rd rs => exact .tup (SqT.of rd)
def rTyNe : R2 := fun x y H Q => ∃ a b, x = .ty a ∧ y = .ty b ∧ a ∈ tyNames ∧ b ∈ tyNames ∧ Q (.bl (!decide (a = b))) H
def rTyEq : R2 := fun x y H Q => ∃ a b, x = .ty a ∧ y = .ty b ∧ a ∈ tyNames ∧ b ∈ tyNames ∧ Q (.bl (decide (a = b))) H
theorem dec_ty (a b : String) : decide (a = b) = (Value.type a == Value.type b) := by
  by_cases h : a = b
  · subst h; simp
  · rw [decide_eq_false h]
    exact (beq_eq_false_iff_ne.mpr fun z => h (by injection z)).symm
theorem op_tyNe (hu : X.A.units + 64 < cLine) : OpR X (compareOp .NotEq) rTyNe := by
  intro pins s σ H x y v u Q I rx ry h
  obtain ⟨a, b, rfl, rfl, ha, hb, q⟩ := h
  cases (show v = Value.type a from rx)
  cases (show u = Value.type b from ry)
  rw [dec_ty] at q
  exact ne_type (meta_of ha) (meta_of hb) (by omega) ⟨.bl _, H, I, rfl, q⟩
theorem op_tyEq : OpR X (compareOp .Eq) rTyEq := by
  intro pins s σ H x y v u Q I rx ry h
  obtain ⟨a, b, rfl, rfl, ha, hb, q⟩ := h
  cases (show v = Value.type a from rx)
  cases (show u = Value.type b from ry)
  rw [dec_ty] at q
  exact eq_type (meta_of ha) (meta_of hb) ⟨.bl _, H, I, rfl, q⟩
def eTyp (neg : Bool) (T : String) (f : FE) : FE := fun en => match f en with
  | some (d, en1) => some (.bool (if neg then !decide (typD d = T) else decide (typD d = T)), en1)
  | none => none
theorem pe_typ {p1 : Pos} (hg : Gl X "type") (hm : X.mg "type" = none) (he : VE X P e fa) (hst : starEach [e] X.env = (false, eval e X.env) :: starEach [] X.env := by rfl) (hpl : (backTo pos (starEach [] X.env)).any (·.1) = false := by rfl) :
    PE X (.Call (.Name "type" p1) [e] [] pos) (tCB (rTyp X.K) (tCons (tv P fa) tNil)) := pe_callTy call_type1 hg hm (by decide +kernel) (pa_cons he pa_nil hst) (by decide) (by decide) hst hpl
theorem vt_typNe {T : String} {x : Str} {p1 p2 cpos : Pos} (hT : T ∈ tyNames) (hu : X.A.units + 64 < cLine) (hg : Gl X "type") (hm : X.mg "type" = none) (hgT : Gl X x) (hmT : X.mg x = none) (hbT : bootBuiltins x = some (.type T)) (he : VE X P e fa)
    (hnT : x ≠ "__name__" := by decide) (hdT : (x == ("__debug__" : Str)) = false := by decide) (hst : starEach [e] X.env = (false, eval e X.env) :: starEach [] X.env := by rfl) (hpl : (backTo cpos (starEach [] X.env)).any (·.1) = false := by rfl) :
    VT X P (.Compare (.Call (.Name "type" p1) [e] [] cpos) [.NotEq] [.Name x p2] pos) (fBool (eTyp true T fa)) :=
  PT.weak (pt_cmpR (op_tyNe hu) (pe_typ hg hm he hst hpl) (pe_bltn (v := .ty T) hgT hmT hbT rfl hnT hdT) (nomark _)) fun σ H Q h => by
    have h := tvT_bool σ H Q h
    obtain ⟨Bf, ow, en, k, d, en', hf, q⟩ := h
    unfold eTyp at hf
    split at hf <;> first | cases hf | skip
    rename_i d1 en1 h1
    exact ⟨Bf, ow, en, k, _, _, h1, fun v ow1 H1 k1 r1 p1 => ⟨v, _, rfl, p1.tyb, _, _, rfl, rfl, typD_in _, hT, q _ ow1 H1 k1 r1 (.bl _)⟩⟩
end
end VL

namespace VL
open PySem PySem.Spec
open PyProof.Rows L2

/-! ### sorted -/
def leI (a b : Int) : Bool := decide (a ≤ b)
def sortI (ns : List Int) : List Int := ns.mergeSort leI
theorem sortI_perm (ns : List Int) : (sortI ns).Perm ns := List.mergeSort_perm ns leI
theorem sortI_pw (ns : List Int) : (sortI ns).Pairwise (· ≤ ·) := by
  have h := List.pairwise_mergeSort (le := leI) (fun a b c h1 h2 => by simp [leI] at *; omega) (fun a b => by simp [leI]; omega) ns
  exact h.imp fun h => of_decide_eq_true h
theorem sortI_eq {ns ms : List Int} (hp : ms.Perm ns) (hs : ms.Pairwise (· ≤ ·)) : ms = sortI ns :=
  (hp.trans (sortI_perm ns).symm).eq_of_pairwise (fun a b _ _ h1 h2 => Int.le_antisymm h1 h2) hs (sortI_pw ns)
def leP (a b : Int × Int) : Bool := decide (a.1 < b.1) || (decide (a.1 = b.1) && decide (a.2 ≤ b.2))
theorem leP_iff {a b : Int × Int} : leP a b = true ↔ a.1 < b.1 ∨ (a.1 = b.1 ∧ a.2 ≤ b.2) := by simp [leP]
def sortP (ns : List (Int × Int)) : List (Int × Int) := ns.mergeSort leP
theorem sortP_perm (ns : List (Int × Int)) : (sortP ns).Perm ns := List.mergeSort_perm ns leP
theorem sortP_pw (ns : List (Int × Int)) : (sortP ns).Pairwise (fun a b => leP a b = true) :=
  List.pairwise_mergeSort (le := leP) (fun a b c h1 h2 => by rw [leP_iff] at *; omega) (fun a b => by
    rw [Bool.or_eq_true, leP_iff, leP_iff]
    omega) ns
theorem sortP_eq {ns ms : List (Int × Int)} (hp : ms.Perm ns) (hs : ms.Pairwise (fun a b => leP a b = true)) : ms = sortP ns :=
  (hp.trans (sortP_perm ns).symm).eq_of_pairwise (fun a b _ _ h1 h2 => by
    rw [leP_iff] at h1 h2
    exact Prod.ext (by omega) (by omega)) hs (sortP_pw ns)
def pairD (p : Int × Int) : D := .tuple [.int p.1, .int p.2]
def pairsOf : List D → Option (List (Int × Int))
  | [] => some []
  | .tuple [.int i, .int j] :: r => (pairsOf r).map ((i, j) :: ·)
  | _ => none
theorem pairsOf_eq : ∀ {ds : List D} {ns : List (Int × Int)}, pairsOf ds = some ns → ds = ns.map pairD
  | [], ns, h => by cases h; rfl
  | d :: r, ns, h => by
    unfold pairsOf at h
    split at h
    · rename_i h0; cases h0
    · rename_i i j r' h0
      cases h0
      cases e : pairsOf r with
      | none => rw [e] at h; cases h
      | some ms =>
        rw [e] at h
        cases h
        rw [pairsOf_eq e]
        rfl
    · cases h
theorem pairsOf_map : ∀ ns : List (Int × Int), pairsOf (ns.map pairD) = some ns
  | [] => rfl
  | n :: ns => by
    rw [List.map_cons]
    unfold pairD
    rw [pairsOf]
    have := pairsOf_map ns
    unfold pairD at this
    rw [this]
    rfl
def gSorted : List D → Option (List D)
  | [.list ds] => match intsOf ds with
    | some ns => some ((sortI ns).map .int)
    | none => match pairsOf ds with
      | some ps => some ((sortP ps).map pairD)
      | none => none
  | _ => none
def keyH (H : Hp) : V → Int × Int
  | .ref t => match H t with
    | some (.tup [.int i, .int j]) => (i, j)
    | _ => (0, 0)
  | _ => (0, 0)
theorem keyH_of {H : Hp} {B : Addr → Prop} {p : Int × Int} {v : V} (r : Rp H B (pairD p) v) : (∃ t, v = .ref t ∧ H t = some (.tup [.int p.1, .int p.2])) ∧ keyH H v = p := by
  unfold pairD at r
  cases r with
  | tup nb e rs =>
    cases rs with
    | cons p1 rs =>
      cases rs with
      | cons p2 rs =>
        cases rs
        cases p1
        cases p2
        refine ⟨⟨_, rfl, e⟩, ?_⟩
        simp [keyH, e]
theorem RpL.pairs {H : Hp} {B : Addr → Prop} : ∀ {ps : List (Int × Int)} {vs : List V}, RpL H B (ps.map pairD) vs → vs.map (keyH H) = ps ∧ ∀ v ∈ vs, (∃ t, v = .ref t ∧ H t = some (.tup [.int (keyH H v).1, .int (keyH H v).2])) ∧ Rp H B (pairD (keyH H v)) v
  | [], _, .nil => ⟨rfl, fun _ h => by simp at h⟩
  | p :: ps, _, .cons (v := v) r rs => by
    obtain ⟨h1, h2⟩ := RpL.pairs rs
    obtain ⟨h3, h4⟩ := keyH_of r
    refine ⟨by rw [List.map_cons, h4, h1], fun w hw => ?_⟩
    rcases List.mem_cons.mp hw with rfl | hw
    · rw [h4]
      exact ⟨h3, r⟩
    · exact h2 w hw
theorem RpL.ofMap {H : Hp} {B : Addr → Prop} {f : V → D} : ∀ {vs : List V}, (∀ v ∈ vs, Rp H B (f v) v) → RpL H B (vs.map f) vs
  | [], _ => .nil
  | v :: vs, h => .cons (h v (by simp)) (RpL.ofMap fun w hw => h w (List.mem_cons_of_mem _ hw))
def rSortedAll (K : PySem.W.Frag) : List V → Hp → VK → Prop := fun vs H Q => rSortedI K vs H Q ∨ rSortedPO K vs H Q
theorem cr_sortedAll {X : Cx} : CallR X (.builtin "sorted") (rSortedAll X.K) := by
  intro pins s σ H xs us Q I r h
  rcases h with h | h
  · exact cr_sortedI pins s σ H xs us Q I r h
  · exact cr_sortedPO pins s σ H xs us Q I r h
theorem ca_sorted {K : PySem.W.Frag} : CaL (rSortedAll K) gSorted := by
  intro H B ds es vs Q e r q
  unfold gSorted at e
  split at e <;> first | cases e | skip
  rename_i xs
  cases r with
  | cons p r =>
    cases r
    cases p with
    | lst n1 d1 s1 =>
      split at e
      · rename_i ns h
        cases e
        have := intsOf_eq h
        subst this
        have := s1.ints
        subst this
        refine .inl ⟨_, ns, rfl, .inl d1, fun ns' p hp hs hn => ?_⟩
        have := sortI_eq hp hs
        subst this
        exact q p _ hn (.ofInts _)
      · split at e <;> first | cases e | skip
        rename_i ps h
        have := pairsOf_eq h
        subst this
        obtain ⟨h1, h2⟩ := s1.pairs
        refine .inr ⟨_, _, keyH H, rfl, .inl d1, fun x hx => (h2 x hx).1, fun ys p hs hst hn => q p ys hn ?_⟩
        have hpm : (ys.map (keyH H)).Perm ps := by
          rw [← h1]
          exact hst.perm.map _
        have hpw : (ys.map (keyH H)).Pairwise (fun a b => leP a b = true) := by
          rw [List.pairwise_map]
          refine List.Pairwise.imp ?_ hs
          intro a b hab
          rw [leP_iff]
          have := SrtO.lexB_no.mp hab
          omega
        rw [← sortP_eq hpm hpw, List.map_map]
        exact RpL.ofMap fun v hv => (h2 v (hst.perm.mem_iff.mp hv)).2
end VL

namespace VL
open PySem PySem.Spec
open PyProof.Rows L2

section
variable {X : Cx} {P : Pl} {a b e : Expr} {es : List Expr} {fa fb : FE} {ga : FA} {pos apos cpos : Pos}
/-! ### values made since the start -/
def tvN (P : Pl) (f : FE) : TE := fun σ H Q => ∃ Bf ow en, Ok P Bf ow en σ H ∧ ∃ d en', f en = some (d, en') ∧
  ∀ v ow' H', Ok P Bf ow' en' σ H' → Rel P H ow H' ow' → Rx H' (blkN Bf ow') d v → Q v H'
def VN (X : Cx) (P : Pl) (e : Expr) (f : FE) : Prop := PE X e (tvN P f)
def nNew (f : FL) : FE := fun en => match f en with
  | some (ds, en1) => if ds.all flatD = true then some (.list ds, en1) else none
  | none => none
theorem vn_new {f : FL} (h : VF X P e f) : VN X P e (nNew f) := PE.weak h fun σ H Q h => by
  obtain ⟨Bf, ow, en, k, d, en', hf, q⟩ := h
  unfold nNew at hf
  split at hf <;> first | cases hf | skip
  rename_i ds en1 h1
  split at hf <;> first | cases hf | skip
  rename_i hfl
  exact ⟨Bf, ow, en, k, _, _, h1, fun p xs ow1 H1 k1 r1 b1 b2 b3 b4 hp rs => q _ ow1 H1 k1.unins r1 (.lst (fun z => z.elim (new_nb b1 b3) b2) hp (rs.flatX hfl))⟩
def nVar (P : List Nat) (i : Nat) : FE := fun en => match en[i]? with
  | some (.vn d) => some (d, en)
  | some (.ow ds) => if i ∉ P ∧ ds.all flatD = true then some (.list ds, en.set i (.vn (.list ds))) else none
  | _ => none
theorem Ok.freezeN {Bf : Bk} {ow : Nat → Option Addr} {en : En} {σ : L2.St} {H : Hp} (k : Ok P Bf ow en σ H) {i : Nat} {ds : List D} (hi : i ∉ P) (e : en[i]? = some (.ow ds)) (hfl : ds.all flatD = true) :
    ∃ v, σ[i]? = some (some v) ∧ Ok P Bf (dropOw ow i) (en.set i (.vn (.list ds))) σ H ∧ Rx H (blkN Bf (dropOw ow i)) (.list ds) v := by
  obtain ⟨a, xs, h1, h2, h3, h4⟩ := k.hown i ds e
  have p : Rx H (blkN Bf (dropOw ow i)) (.list ds) (.ref a) := by
    refine .lst (fun z => ?_) h3 (h4.flatX hfl)
    rcases z with (z | ⟨j, z⟩) | z
    · exact (k.hloc i a h1 hi).1 z
    · have := k.hinj j i a (dropOw_sub _ _ z) h1
      subst this
      unfold dropOw at z
      rw [if_pos rfl] at z
      cases z
    · exact (k.hloc i a h1 hi).2 z
  refine ⟨_, h2, ?_, p⟩
  have k2 := k.setN hi p
  have es : σ.set i (some (.ref a)) = σ := by
    apply List.ext_getElem?
    intro j
    by_cases hj : j = i
    · subst hj
      rw [List.getElem?_set_self (List.getElem?_eq_some_iff.mp h2).1, h2]
    · rw [List.getElem?_set_ne (Ne.symm hj)]
  rw [es] at k2
  exact k2
theorem vn_var {i : Nat} {x : Str} (hN : X.N[i]? = some x) (hv : Vis X.env.scope x := by first | exact .inl rfl | exact .inr (.inl rfl) | exact .inr (.inr rfl)) (hd : (x == ("__debug__" : Str)) = false := by decide) (hcd : (x == ("__classdict__" : Str)) = false := by decide) : VN X P (.Name x pos) (nVar P.ps i) := by
  refine PE.weak (pe_var hN hv hd hcd) fun σ H Q h => ?_
  obtain ⟨Bf, ow, en, k, d, en', hf, q⟩ := h
  unfold nVar at hf
  split at hf
  · rename_i d' he
    cases hf
    obtain ⟨v, h1, h2⟩ := k.hvn i d he
    exact ⟨v, h1, q v ow H k .refl h2⟩
  · rename_i ds he
    split at hf <;> first | cases hf | skip
    rename_i hc
    obtain ⟨v, h1, k2, p⟩ := k.freezeN hc.1 he hc.2
    exact ⟨v, h1, q v _ H k2 (dropOw_rel hc.1) p⟩
  · cases hf
def tvNA (P : Pl) (f : FA) : TA := fun σ H Q => ∃ Bf ow en, Ok P Bf ow en σ H ∧ ∃ ds en', f en = some (ds, en') ∧
  ∀ vs ow' H', Ok P Bf ow' en' σ H' → Rel P H ow H' ow' → RxL H' (blkN Bf ow') ds vs → Q vs H'
def VNA (X : Cx) (P : Pl) (es : List Expr) (f : FA) : Prop := PA X es (tvNA P f)
theorem vna_nil : VNA X P [] aNil := by
  refine PA.weak pa_nil fun σ H Q h => ?_
  obtain ⟨Bf, ow, en, k, d, en', hf, q⟩ := h
  cases hf
  exact q [] ow H k .refl .nil
theorem vna_cons (ha : VN X P e fa) (hr : VNA X P es ga) (hs : starEach (e :: es) X.env = (false, eval e X.env) :: starEach es X.env := by rfl) : VNA X P (e :: es) (aCons fa ga) := by
  refine PA.weak (pa_cons ha hr hs) fun σ H Q h => ?_
  obtain ⟨Bf, ow, en, k, d, en', hf, q⟩ := h
  unfold aCons at hf
  split at hf <;> first | cases hf | skip
  rename_i d1 en1 h1
  split at hf <;> first | cases hf | skip
  rename_i ds en2 h2
  exact ⟨Bf, ow, en, k, _, _, h1, fun v1 ow1 H1 k1 r1 p1 => ⟨Bf, ow1, en1, k1, _, _, h2, fun vs ow2 H2 k2 r2 p2 => q _ ow2 H2 k2 (r1.trans r2) (.cons (p1.move r2.mvN) p2)⟩⟩
theorem vn_lst (h : VNA X P es ga) : VN X P (.List es pos) (eLst ga) := by
  refine PE.weak (pe_lst h) fun σ H Q h => ?_
  obtain ⟨Bf, ow, en, k, d, en', hf, q⟩ := h
  unfold eLst at hf
  split at hf <;> first | cases hf | skip
  rename_i ds en1 h1
  split at hf <;> first | cases hf | skip
  rename_i hz
  exact ⟨Bf, ow, en, k, _, _, h1, fun vs ow1 H1 k1 r1 p1 => ⟨by rw [← p1.length]; exact hz, fun p hp => q _ ow1 _ (k1.ext (.upd hp)) (r1.trans (Ext.upd hp).rel)
    (.lst (fun z => z.elim (k1.nb hp) fun z => k1.hod p z hp) upd_same (p1.move fun b o e t n => ⟨Ext.upd hp b o e, n⟩))⟩⟩
def gCat : D → D → Option D
  | .list xs, .list ys => if xs.length + ys.length ≤ sizeLine then some (.list (xs ++ ys)) else none
  | _, _ => none
theorem vn_cat (ha : VN X P a fa) (hb : VN X P b fb) : VN X P (.BinOp a .Add b pos) (eOp gCat fa fb) :=
  PE.weak (pe_op op_catR ha hb) fun σ H Q h => by
    obtain ⟨Bf, ow, en, k, d, en', hf, q⟩ := h
    unfold eOp at hf
    split at hf <;> first | cases hf | skip
    rename_i x en1 h1
    split at hf <;> first | cases hf | skip
    rename_i y en2 h2
    split at hf <;> first | cases hf | skip
    rename_i z h3
    refine ⟨Bf, ow, en, k, x, en1, h1, fun v1 ow1 H1 k1 r1 p1 => ⟨Bf, ow1, en1, k1, y, _, h2, fun v2 ow2 H2 k2 r2 p2 => ?_⟩⟩
    unfold gCat at h3
    split at h3 <;> first | cases h3 | skip
    split at h3 <;> first | cases h3 | skip
    rename_i hz
    have p3 := p1.move r2.mvN
    cases p3 with
    | lst n1 e1 s1 =>
      cases p2 with
      | lst n2 e2 s2 =>
        exact ⟨_, _, _, _, rfl, rfl, .inl e1, .inl e2, by rw [← s1.length, ← s2.length]; exact hz, fun p hp => q _ ow2 _ (k2.ext (.upd hp)) ((r1.trans r2).trans (Ext.upd hp).rel)
          (.lst (fun z => z.elim (k2.nb hp) fun z => k2.hod p z hp) upd_same ((s1.append s2).move fun b o e t n => ⟨Ext.upd hp b o e, n⟩))⟩
def sSetN (i : Nat) (f : FE) : FS := fun en => match f en with
  | some (d, en1) => some (.nx (en1.set i (.vn d)))
  | none => none
theorem vs_setN {i : Nat} {x : Str} {pos' : Pos} (hN : X.N.Nodup) (hi : X.N[i]? = some x) (hx : Loc X.env.scope x := by first | exact .inl rfl | exact .inr rfl) (hP : i ∉ P) (he : VN X P e fa) (hs : swapsWith e (some (.Name x pos')) pos.line X.env = pure false := by rfl)
    (hf : X.fn x = true ∨ X.env.scope.names.lookup x = some .local := by first | exact .inl rfl | exact .inr rfl | assumption) : VS X P (.Assign [.Name x pos'] e pos) (sSetN i fa) :=
  PS.weak (ps_set hN hi hx he hs hf) fun Dn σ H h => by
    obtain ⟨Bf, ow, en, k, o, hf, q⟩ := h
    unfold sSetN at hf
    split at hf <;> first | cases hf | skip
    rename_i d en1 h1
    refine ⟨Bf, ow, en, k, _, _, h1, fun v ow1 H1 k1 r1 p1 => ?_⟩
    have p2 := p1.move (H' := H1) (B' := blkN Bf (dropOw ow1 i)) fun b o e t n => ⟨e, fun z => n (z.elim (fun z => .inl (dropOw_blk z)) .inr)⟩
    exact q _ _ _ (k1.setN hP p2) (r1.trans (dropOw_rel hP)).s

/-! ### lists that are given up: for r in <lists made since>: r.append(<a constant>) -/
mutual
/-- no list anywhere -/
def lfD : D → Bool
  | .list _ => false
  | .tuple xs => lfL xs
  | .dict _ => false
  | _ => true
def lfL : List D → Bool
  | [] => true
  | d :: r => lfD d && lfL r
end
mutual
theorem Rp.lf {H H' : Hp} {B : Addr → Prop} (k : ∀ b xs, H b = some (.tup xs) → ¬ B b → H' b = some (.tup xs)) : ∀ {d : D} {v : V}, Rp H B d v → lfD d = true → Rp H' B d v
  | _, _, .non, _ => .non
  | _, _, .bl b, _ => .bl b
  | _, _, .int i, _ => .int i
  | _, _, .str x, _ => .str x
  | _, _, .lst _ _ _, f => by simp [lfD] at f
  | _, _, .tup nb e rs, f => .tup nb (k _ _ e nb) (RpL.lf k rs (by simpa [lfD] using f))
theorem RpL.lf {H H' : Hp} {B : Addr → Prop} (k : ∀ b xs, H b = some (.tup xs) → ¬ B b → H' b = some (.tup xs)) : ∀ {ds : List D} {vs : List V}, RpL H B ds vs → lfL ds = true → RpL H' B ds vs
  | _, _, .nil, _ => .nil
  | _, _, .cons r rs, f => by
    rw [lfL, Bool.and_eq_true] at f
    exact .cons (Rp.lf k r f.1) (RpL.lf k rs f.2)
end
/-- what is left of a slot -/
def clean : Sl → Sl
  | .va d => if lfD d then .va d else .un
  | .ow ds => .ow ds
  | .dc t kvs => .dc t kvs
  | _ => .un
def ownLf : Sl → Bool
  | .ow ds => lfL ds
  | .dc _ kvs => kvs.all fun p => lfD p.2
  | _ => true
theorem clean_va {s : Sl} {d : D} (e : clean s = .va d) : s = .va d ∧ lfD d = true := by
  cases s with
  | va d' =>
    simp only [clean] at e
    split at e
    · cases e
      exact ⟨rfl, by assumption⟩
    · cases e
  | _ => simp [clean] at e
theorem clean_own {s s' : Sl} (e : clean s = s') (f : isOwn s' = true) : s = s' := by
  cases s with
  | va d' =>
    simp only [clean] at e
    split at e <;> (subst e; cases f)
  | ow ds' => exact e
  | dc t ds' => exact e
  | _ => subst e; cases f
theorem clean_vn {s : Sl} {d : D} (e : clean s = .vn d) : False := by
  cases s with
  | va d' =>
    simp only [clean] at e
    split at e <;> cases e
  | _ => simp [clean] at e
theorem pairedM {α β : Type} {F G : α → β → Prop} : ∀ {l₁ : List α} {l₂ : List β}, Paired F l₁ l₂ → (∀ a b, a ∈ l₁ → F a b → G a b) → Paired G l₁ l₂
  | _, _, .nil, _ => .nil
  | _, _, .cons r t, f => .cons (f _ _ (by simp) r) (pairedM t fun a b h => f a b (List.mem_cons_of_mem _ h))
theorem OwnAt.lf {H H' : Hp} {B : Addr → Prop} {a : Addr} {s : Sl} (d : OwnAt H B a s) (ha : ∀ o, H a = some o → H' a = some o) (k : ∀ b xs, H b = some (.tup xs) → ¬ B b → H' b = some (.tup xs)) (hl : ownLf s = true) : OwnAt H' B a s := by
  cases s with
  | ow ds =>
    obtain ⟨xs, h1, h2⟩ := d
    exact ⟨xs, ha _ h1, h2.lf k hl⟩
  | dc t kvs =>
    have hl' : ∀ p ∈ kvs, lfD p.2 = true := List.all_eq_true.mp hl
    cases t with
    | false =>
      obtain ⟨ks, h1, h2⟩ := d
      exact ⟨ks, ha _ h1, pairedM h2 fun p q hp z => ⟨z.1, z.2.lf k (hl' p hp)⟩⟩
    | true =>
      obtain ⟨ks, h1, h2⟩ := d
      exact ⟨ks, ha _ h1, pairedM h2 fun p q hp z => ⟨z.1, z.2.lf k (hl' p hp)⟩⟩
  | un => exact d.elim
  | va _ => exact d.elim
  | vn _ => exact d.elim
/-- lists that are no one's may have changed -/
theorem Ok.spoil {Bf : Bk} {ow : Nat → Option Addr} {en : En} {σ : L2.St} {H H' : Hp} (k : Ok P Bf ow en σ H) (kt : ∀ b zs, H b = some (.tup zs) → H' b = some (.tup zs)) (ko : ∀ i a o, ow i = some a → H a = some o → H' a = some o)
    (sm : ∀ b, H b ≠ none → H' b ≠ none) (ht : LamX.Tabs P.tb H') (hl : en.all ownLf = true) : Ok P Bf ow (en.map clean) σ H' := by
  have kt' : ∀ b zs, H b = some (.tup zs) → ¬ blk Bf ow b → H' b = some (.tup zs) := fun b zs e _ => kt b zs e
  refine ⟨by simp [k.hlen], fun i d e => ?_, fun i d e => ?_, fun i s' e f => ?_, fun i a e => ?_, k.hinj, fun b z => sm b (k.hbf b z), fun b z => sm b (k.hod b z), k.hloc, ht⟩
  · rw [List.getElem?_map] at e
    cases e0 : en[i]? with
    | none => rw [e0] at e; cases e
    | some s =>
      rw [e0] at e
      obtain ⟨rfl, hf⟩ := clean_va (Option.some.inj e)
      obtain ⟨v, h1, h2⟩ := k.hva i d e0
      exact ⟨v, h1, h2.lf kt' hf⟩
  · rw [List.getElem?_map] at e
    cases e0 : en[i]? with
    | none => rw [e0] at e; cases e
    | some s =>
      rw [e0] at e
      exact (clean_vn (Option.some.inj e)).elim
  · rw [List.getElem?_map] at e
    cases e0 : en[i]? with
    | none => rw [e0] at e; cases e
    | some s =>
      rw [e0] at e
      have := clean_own (Option.some.inj e) f
      subst this
      obtain ⟨a, h1, h2, h3⟩ := k.hob i s e0 f
      exact ⟨a, h1, h2, h3.lf (fun o e => ko i a o h1 e) kt' ((List.all_eq_true.mp hl) _ (List.mem_of_getElem? e0))⟩
  · obtain ⟨s, e0, f⟩ := k.hdom i a e
    refine ⟨s, ?_, f⟩
    rw [List.getElem?_map, e0]
    cases s with
    | ow ds => rfl
    | dc t ds => rfl
    | un => cases f
    | va _ => cases f
    | vn _ => cases f
theorem clean_idem (s : Sl) : clean (clean s) = clean s := by
  cases s with
  | va d =>
    by_cases h : lfD d = true
    · simp [clean, h]
    · simp [clean, h]
  | _ => rfl
theorem map_clean_idem (en : En) : (en.map clean).map clean = en.map clean := by
  rw [List.map_map]
  congr 1
  funext s
  exact clean_idem s
theorem ownLf_clean (en : En) (h : en.all ownLf = true) : (en.map clean).all ownLf = true := by
  rw [List.all_map]
  rw [List.all_eq_true] at h ⊢
  intro s hs
  have := h s hs
  cases s with
  | va d =>
    simp only [Function.comp, clean]
    split <;> rfl
  | ow ds => exact this
  | dc t ds => exact this
  | _ => rfl
def roomL (n : Nat) : D → Bool
  | .list l => decide (l.length + n < sizeLine)
  | _ => false
def sSpoil (i : Nat) (f : FE) : FS := fun en => match f en with
  | some (.list ds, en1) => if ds.all (roomL ds.length) = true ∧ en1.all ownLf = true ∧ isOwnO en1[i]? = false ∧ i < en1.length then some (.nx ((en1.map clean).set i .un)) else none
  | _ => none
mutual
theorem Rx.uniq {H : Hp} {B B' : Addr → Prop} : ∀ {d d' : D} {v : V}, Rx H B d v → Rx H B' d' v → d = d'
  | _, _, _, .non, .non => rfl
  | _, _, _, .bl b, .bl _ => rfl
  | _, _, _, .int i, .int _ => rfl
  | _, _, _, .str x, .str _ => rfl
  | _, _, _, .lst _ e rs, .lst _ e' rs' => by
    rw [e] at e'
    cases e'
    rw [RxL.uniq rs rs']
  | _, _, _, .tup _ e rs, .tup _ e' rs' => by
    rw [e] at e'
    cases e'
    rw [RxL.uniq rs rs']
  | _, _, _, .lst _ e _, .tup _ e' _ => by rw [e] at e'; cases e'
  | _, _, _, .tup _ e _, .lst _ e' _ => by rw [e] at e'; cases e'
theorem RxL.uniq {H : Hp} {B B' : Addr → Prop} : ∀ {ds ds' : List D} {vs : List V}, RxL H B ds vs → RxL H B' ds' vs → ds = ds'
  | _, _, _, .nil, .nil => rfl
  | _, _, _, .cons r rs, .cons r' rs' => by rw [Rx.uniq r r', RxL.uniq rs rs']
end
end

/-! ### the statements of a def's own body: what was there at its start stands -/
structure RelT (P : Pl) (Bf : Bk) (H : Hp) (ow : Nat → Option Addr) (H' : Hp) (ow' : Nat → Option Addr) : Prop where
  hkeep : ∀ b o, Bf.od b → H b = some o → NT o → (∀ i, ow i ≠ some b) → H' b = some o ∧ (∀ i, ow' i ≠ some b)
  hsome : ∀ b, H b ≠ none → H' b ≠ none
  hpin : ∀ i, i ∈ P → ow' i = ow i
section
variable {P : Pl} {Bf : Bk} {ow ow' ow1 : Nat → Option Addr} {H H' H1 : Hp}
theorem RelS.t (a : RelS P H ow H' ow') : RelT P Bf H ow H' ow' := ⟨fun b o _ e t n => a.hkeep b o e t n, a.hsome, a.hpin⟩
theorem RelT.trans (a : RelT P Bf H ow H1 ow1) (b : RelT P Bf H1 ow1 H' ow') : RelT P Bf H ow H' ow' :=
  ⟨fun x o d e t n => b.hkeep x o d (a.hkeep x o d e t n).1 t (a.hkeep x o d e t n).2, fun x e => b.hsome x (a.hsome x e), fun i hi => (b.hpin i hi).trans (a.hpin i hi)⟩
end
def post0 (P : Pl) (Bf : Bk) (Dn : Ends) (H : Hp) (ow : Nat → Option Addr) : Out → Prop
  | .nx en' => ∀ ow' σ' H', Ok P Bf ow' en' σ' H' → RelT P Bf H ow H' ow' → Dn.nx σ' H'
  | .rt d en' => ∀ ow' σ' H' v, Ok P Bf ow' en' σ' H' → RelT P Bf H ow H' ow' → Rp H' (blk Bf ow') d v → Dn.rt v H'
  | .rf ds en' => ∀ ow' σ' H' p xs, Ok P (insB Bf p) ow' en' σ' H' → RelT P Bf H ow H' ow' → ¬ Bf.bl p → ¬ Bf.od p → (∀ i, ow' i ≠ some p) → H' p = some (.lst xs) → RpL H' (blk (insB Bf p) ow') ds xs → Dn.rt (.ref p) H'
  | _ => False
def tvS0 (P : Pl) (f : FS) : TS := fun Dn σ H => ∃ Bf ow en, Ok P Bf ow en σ H ∧ ∃ o, f en = some o ∧ post0 P Bf Dn H ow o
def VS0 (X : Cx) (P : Pl) (st : Stmt) (f : FS) : Prop := PS X st (tvS0 P f)
def VB0 (X : Cx) (P : Pl) (st : List Stmt) (f : FS) : Prop := PSs X st (tvS0 P f)
theorem post0.trans {P : Pl} {Bf : Bk} {Dn : Ends} {H H1 : Hp} {ow ow1 : Nat → Option Addr} {o : Out} (h : post0 P Bf Dn H ow o) (r : RelT P Bf H ow H1 ow1) : post0 P Bf Dn H1 ow1 o := by
  cases o with
  | nx en => exact fun ow' σ' H' k r' => h ow' σ' H' k (r.trans r')
  | rt d en => exact fun ow' σ' H' v k r' p => h ow' σ' H' v k (r.trans r') p
  | rf d en => exact fun ow' σ' H' p xs k r' => h ow' σ' H' p xs k (r.trans r')
  | bk en => exact h
  | ct en => exact h
theorem post0.post {P : Pl} {Bf : Bk} {Dn : Ends} {H : Hp} {ow : Nat → Option Addr} {o : Out} (h : post0 P Bf Dn H ow o) : post P Bf Dn H ow o := by
  cases o with
  | nx en => exact fun ow' σ' H' k r' => h ow' σ' H' k r'.t
  | rt d en => exact fun ow' σ' H' v k r' p => h ow' σ' H' v k r'.t p
  | rf d en => exact fun ow' σ' H' p xs k r' => h ow' σ' H' p xs k r'.t
  | bk en => exact h.elim
  | ct en => exact h.elim
section
variable {X : Cx} {P : Pl} {st : Stmt} {rest sts : List Stmt} {f g : FS} {e : Expr} {fa : FE} {pos apos cpos : Pos}
theorem vs0_of (h : VS X P st f) : VS0 X P st f := PS.weak h fun Dn σ H h => by
  obtain ⟨Bf, ow, en, k, o, hf, q⟩ := h
  exact ⟨Bf, ow, en, k, o, hf, q.post⟩
theorem vb0_of (h : VB X P sts f) : VB0 X P sts f := PSs.weak h fun Dn σ H h => by
  obtain ⟨Bf, ow, en, k, o, hf, q⟩ := h
  exact ⟨Bf, ow, en, k, o, hf, q.post⟩
theorem vb0_one (h : VS0 X P st f) : VB0 X P [st] f := pss_one h
theorem vb0_cons (h1 : VS0 X P st f) (h2 : VB0 X P rest g) : VB0 X P (st :: rest) (sSeq f g) := PSs.weak (pss_cons h1 h2) fun Dn σ H h => by
  obtain ⟨Bf, ow, en, k, o, hf, q⟩ := h
  unfold sSeq at hf
  split at hf
  · rename_i en1 h1
    exact ⟨Bf, ow, en, k, _, h1, fun ow1 σ1 H1 k1 r1 => ⟨Bf, ow1, en1, k1, o, hf, q.trans r1⟩⟩
  · cases hf; exact q.elim
  · cases hf; exact q.elim
  · rename_i d en1 h1
    cases hf
    exact ⟨Bf, ow, en, k, _, h1, q⟩
  · rename_i d en1 h1
    cases hf
    exact ⟨Bf, ow, en, k, _, h1, q⟩
  · cases hf
theorem roomL_of {n : Nat} {d : D} (h : roomL n d = true) : ∃ l, d = .list l ∧ l.length + n < sizeLine := by
  cases d with
  | list l => exact ⟨l, rfl, of_decide_eq_true h⟩
  | _ => cases h
theorem Ok.unset {Bf : Bk} {ow : Nat → Option Addr} {en : En} {σ σ' : L2.St} {H : Hp} {i : Nat} (k : Ok P Bf ow en σ H) (h : isOwnO en[i]? = false) (hl : σ'.length = σ.length) (hs : ∀ l, l ≠ i → σ'[l]? = σ[l]?) : Ok P Bf ow (en.set i .un) σ' H := by
  have key : ∀ (j : Nat) (s : Sl), (en.set i .un)[j]? = some s → s ≠ .un → j ≠ i ∧ en[j]? = some s := fun j s e hn => by
    by_cases hj : j = i
    · subst hj
      by_cases hjl : j < en.length
      · rw [List.getElem?_set_self hjl] at e
        cases e
        exact absurd rfl hn
      · rw [List.getElem?_eq_none (by simpa using hjl)] at e
        cases e
    · rw [List.getElem?_set_ne (Ne.symm hj)] at e
      exact ⟨hj, e⟩
  refine ⟨by rw [hl, k.hlen, List.length_set], fun j d e => ?_, fun j d e => ?_, fun j s e f => ?_, fun j a e => ?_, k.hinj, k.hbf, k.hod, k.hloc, k.htab⟩
  · obtain ⟨hj, e'⟩ := key j _ e (fun z => nomatch z)
    obtain ⟨v, h1, h2⟩ := k.hva j d e'
    exact ⟨v, (hs j hj).trans h1, h2⟩
  · obtain ⟨hj, e'⟩ := key j _ e (fun z => nomatch z)
    obtain ⟨v, h1, h2⟩ := k.hvn j d e'
    exact ⟨v, (hs j hj).trans h1, h2⟩
  · obtain ⟨hj, e'⟩ := key j _ e (fun z => by subst z; cases f)
    obtain ⟨a, h1, h2, h3⟩ := k.hob j s e' f
    exact ⟨a, h1, (hs j hj).trans h2, h3⟩
  · obtain ⟨s, e', f⟩ := k.hdom j a e
    have hj : j ≠ i := fun z => by
      subst z
      rw [e'] at h
      have h' : isOwn s = false := h
      rw [f] at h'
      cases h'
    exact ⟨s, by rw [List.getElem?_set_ne (Ne.symm hj)]; exact e', f⟩
theorem vs0_spoil {i : Nat} {x : Str} {c : Int} {jj : Nat} {p1 p2 p3 : Pos} {iter : Expr} (hp : PassesOwn (model X.prog X.w) X.A X.env X.xe) (hc : X.calm = true) (hN : X.N.Nodup) (hi : X.N[i]? = some x) (hx : Loc X.env.scope x := by first | exact .inl rfl | exact .inr rfl) (hP : i ∉ P) (he : VN X P iter fa)
    (hv : Vis X.env.scope x := by first | exact .inl rfl | exact .inr (.inl rfl) | exact .inr (.inr rfl))
    (hd : (x == ("__debug__" : Str)) = false := by decide) (hcd : (x == ("__classdict__" : Str)) = false := by decide) (hf : X.fn x = true ∨ X.env.scope.names.lookup x = some .local := by first | exact .inl rfl | exact .inr rfl | assumption)
    (hbase : attributeBase (.Name x p2) "append" X.env (eval (.Name x p2) X.env) = eval (.Name x p2) X.env := by rfl)
    (hfew : ((backTo cpos (starEach [.Constant (.int c) jj p3] X.env)).all (fun x => !x.1) && (backToKw cpos (keywordEach [] X.env)).all (fun x => x.1.isSome)
      && decide ([(Expr.Constant (.int c) jj p3)].length + ([] : List Keyword).length + (if ([] : List Keyword).isEmpty then 0 else 1) < 30)) = true := by rfl)
    (hline : (apos.endLine == cpos.line) = true := by rfl) (hst : starEach [.Constant (.int c) jj p3] X.env = (false, eval (.Constant (.int c) jj p3) X.env) :: starEach [] X.env := by rfl) (hplain : (backTo cpos (starEach [] X.env)).any (·.1) = false := by rfl)
    {epos : Pos} (hs : swapsWith (.Call (.Attribute (.Name x p2) "append" apos) [.Constant (.int c) jj p3] [] cpos) none epos.line X.env = pure false := by rfl)
    (hfold : ∀ y, foldedSetIterable iter X.env y = pure y := by intro _; rfl) :
    VS0 X P (.For (.Name x p1) iter [.Expr (.Call (.Attribute (.Name x p2) "append" apos) [.Constant (.int c) jj p3] [] cpos) epos] [] pos) (sSpoil i fa) :=
  PS.weak (ps_for hp hc (pi_list he) (pg_name hN hi hx hf) (pss_one (ps_expr (pe_bm PySem.F.plainAttrs_list PySem.F.slot_list_append PySem.F.type_list_append mt_append (pe_var hi hv hd hcd) (pa_cons pe_int pa_nil hst) hbase hfew hline hst hplain) hs)) hfold) fun Dn σ H h => by
    obtain ⟨Bf, ow, en, k, o, hfe, q⟩ := h
    unfold sSpoil at hfe
    split at hfe <;> first | cases hfe | skip
    rename_i ds en1 h1
    split at hfe <;> first | cases hfe | skip
    rename_i hcnd
    obtain ⟨hroom, hown, hnow, hil⟩ := hcnd
    refine ⟨Bf, ow, en, k, _, en1, h1, fun v ow1 H1 k1 r1 p1 => ?_⟩
    cases p1 with
    | lst na ea rs =>
      rename_i a xs
      refine ⟨a, rfl, ⟨xs, SqL.of ea⟩, ?_⟩
      -- the items
      have item : ∀ (j : Nat) (z : V), xs[j]? = some z → ∃ (r : Addr) (l : List D), z = .ref r ∧ l.length + ds.length < sizeLine ∧ ¬ blkN Bf ow1 r ∧ r ≠ a ∧ ∃ zs, H1 r = some (.lst zs) ∧ zs.length = l.length := fun j z hz => by
        have hj : j < ds.length := by rw [rs.length]; exact (List.getElem?_eq_some_iff.mp hz).1
        obtain ⟨v', g1, g2⟩ := rs.get (List.getElem?_eq_getElem hj)
        rw [hz] at g1
        cases g1
        obtain ⟨l, g3, g4⟩ := roomL_of ((List.all_eq_true.mp hroom) _ (List.getElem_mem hj))
        have hm : PyData.list l ∈ ds := by rw [← g3]; exact List.getElem_mem hj
        rw [g3] at g2
        cases g2 with
        | lst nr er rr =>
          refine ⟨_, l, rfl, g4, nr, fun z => ?_, _, er, rr.length.symm⟩
          subst z
          have e := Rx.uniq (Rx.lst nr er rr) (Rx.lst na ea rs)
          have e' : l = ds := by injection e
          subst e'
          have := List.sizeOf_lt_of_mem hm
          simp at this
          omega
      let Pv : Nat → L2.St → Hp → Prop := fun j σ' H' => (∀ b o, H1 b = some o → (∀ (r : Addr) (z : Nat), xs[z]? = some (V.ref r) → b ≠ r) → H' b = some o) ∧ (∀ (r : Addr) (z : Nat), xs[z]? = some (V.ref r) → ∃ zs zs0, H' r = some (.lst zs) ∧ H1 r = some (.lst zs0) ∧ zs.length ≤ zs0.length + j) ∧
        (∀ b, H1 b ≠ none → H' b ≠ none) ∧ σ'.length = σ.length ∧ ∀ l, l ≠ i → σ'[l]? = σ[l]?
      have hla : ∀ j σ' H', Pv j σ' H' → H' a = some (.lst xs) := fun j σ' H' w => w.1 a _ ea fun r z hz e => by
        obtain ⟨r', l, e1, _, _, e2, _⟩ := item z _ hz
        cases e1
        exact e2 e.symm
      refine for_list (K := X.K) (a := a) (xs := xs) Pv ⟨fun b o e _ => e, fun r z hz => ?_, fun b e => e, rfl, fun _ _ => rfl⟩ (fun j σ' H' _ w => SqL.of (hla j σ' H' w)) (fun j z σ' H' hz w => ?_) (fun σ' H' w => ?_)
      · obtain ⟨r', l, e1, _, _, _, zs, e2, _⟩ := item z _ hz
        cases e1
        exact ⟨zs, zs, e2, e2, Nat.le_refl _⟩
      · obtain ⟨r, l, rfl, hl, nr, _, zs0, er, hzl⟩ := item j z hz
        obtain ⟨zs, zs0', e1, e2, e3⟩ := w.2.1 r j hz
        rw [er] at e2
        cases e2
        have hj : j < ds.length := by rw [rs.length]; exact (List.getElem?_eq_some_iff.mp hz).1
        have hlen : zs.length < sizeLine := by omega
        have hiσ : i < σ'.length := by
          rw [w.2.2.2.1, k1.hlen]
          exact hil
        refine ⟨V.ref r, List.getElem?_set_self hiσ, .inl ⟨rfl, _, SqL.of e1⟩, r, zs, .int c, rfl, rfl, e1, hlen, ?_⟩
        refine ⟨fun b o e n => ?_, fun r' z' hz' => ?_, fun b e => ?_, by rw [List.length_set]; exact w.2.2.2.1, fun m hm => by rw [List.getElem?_set_ne (Ne.symm hm)]; exact w.2.2.2.2 m hm⟩
        · rw [upd_ne (n r j hz)]
          exact w.1 b o e n
        · by_cases hr : r' = r
          · subst hr
            obtain ⟨_, zs1, _, f2, _⟩ := w.2.1 r' z' hz'
            rw [er] at f2
            cases f2
            exact ⟨_, zs0, upd_same, er, by rw [List.length_append, List.length_singleton]; omega⟩
          · obtain ⟨zs2, zs3, f1, f2, f3⟩ := w.2.1 r' z' hz'
            exact ⟨zs2, zs3, by rw [upd_ne hr]; exact f1, f2, by omega⟩
        · by_cases hb : b = r
          · rw [hb, upd_same]
            exact fun z => nomatch z
          · rw [upd_ne hb]
            exact w.2.2.1 b e
      · -- the end
        obtain ⟨w1, w2, w3, w4, w5⟩ := w
        have k2 : Ok P Bf ow1 (en1.map clean) σ H' := k1.spoil (fun b zs e => w1 b _ e fun r z hz h => by
            obtain ⟨r', l, e1, _, _, _, zs, e2, _⟩ := item z _ hz
            cases e1
            rw [h, e2] at e
            cases e) (fun i' a' o' e1 e2 => w1 a' _ e2 fun r z hz h => by
            obtain ⟨r', l, f1, _, f2, _⟩ := item z _ hz
            cases f1
            rw [h] at e1
            exact f2 (.inl (.inr ⟨i', e1⟩))) w3 (fun q hq => by
            obtain ⟨ps, t1, t2, t3⟩ := k1.htab q hq
            refine ⟨ps, w1 _ _ t1 fun r z hz h => ?_, t2, fun pos cv hc => ?_⟩
            · obtain ⟨r', l, f1, _, _, _, zs, f2, _⟩ := item z _ hz
              cases f1
              rw [h, f2] at t1
              cases t1
            · obtain ⟨c, f1, f2⟩ := t3 pos cv hc
              refine ⟨c, f1, w1 _ _ f2 fun r z hz h => ?_⟩
              obtain ⟨r', l, g1, _, _, _, zs, g2, _⟩ := item z _ hz
              cases g1
              rw [h, g2] at f2
              cases f2) hown
        have hnow2 : isOwnO (en1.map clean)[i]? = false := by
          rw [List.getElem?_map]
          cases e0 : en1[i]? with
          | none => rfl
          | some s =>
            rw [e0] at hnow
            cases s with
            | ow ds' => cases hnow
            | dc t ds' => cases hnow
            | va d =>
              by_cases hlf : lfD d = true
              · simp [clean, hlf, isOwnO, isOwn]
              · simp [clean, hlf, isOwnO, isOwn]
            | un => rfl
            | vn d => rfl
        refine q ow1 σ' H' (k2.unset hnow2 w4 w5) ?_
        have nod : ∀ b, Bf.od b → ∀ (r : Addr) (z : Nat), xs[z]? = some (V.ref r) → b ≠ r := fun b hb r z hz h => by
          obtain ⟨r', l, f1, _, f2, _⟩ := item z _ hz
          cases f1
          subst h
          exact f2 (.inr hb)
        exact ⟨fun b o hb e t n => ⟨w1 b o (r1.hkeep b o e t n).1 (nod b hb), (r1.hkeep b o e t n).2⟩, fun b e => w3 b (r1.hsome b e), r1.hpin⟩
end
end VL

namespace VL
open PySem PySem.Spec
open PyProof.Rows L2
section
variable {P : Pl} {Bf : Bk} {ow ow' : Nat → Option Addr} {as en' : En} {vs : List V} {H H' : Hp}
theorem aft_of0 {σ' : L2.St} (hw : ∀ i a, ow i = some a → i ∈ P) (k : Ok P (runB Bf H) ow' en' σ' H') (r : RelT P (runB Bf H) H ow H' ow') : Aft P Bf ow en' H H' :=
  ⟨fun i hi a e => by
    have e' : ow' i = some a := (r.hpin i hi).trans e
    obtain ⟨s, h, f, g2, g3⟩ := k.hat e'
    exact ⟨s, h, f, g3.move (fun o e _ => e) fun b o e t n => ⟨e, fun z => n (run_sub hw r.hpin z)⟩⟩, fun b o e t n => (r.hkeep b o (show H b ≠ none by rw [e]; exact fun z => nomatch z) e t n).1, r.hsome, k.htab⟩
theorem aft_ofI0 {σ' : L2.St} {p : Addr} (hw : ∀ i a, ow i = some a → i ∈ P) (k : Ok P (insB (runB Bf H) p) ow' en' σ' H') (r : RelT P (runB Bf H) H ow H' ow') : Aft P (insB Bf p) ow en' H H' :=
  ⟨fun i hi a e => by
    have e' : ow' i = some a := (r.hpin i hi).trans e
    obtain ⟨s, h, f, g2, g3⟩ := k.hat e'
    exact ⟨s, h, f, g3.move (fun o e _ => e) fun b o e t n => ⟨e, fun z => n (run_subI hw r.hpin z)⟩⟩, fun b o e t n => (r.hkeep b o (show H b ≠ none by rw [e]; exact fun z => nomatch z) e t n).1, r.hsome, k.htab⟩
theorem body_V0 {N : List Str} {n : Nat} {f : FS} {Q : VK} {E : XK} (h : spV P n (fnV N.length f) vs H Q E) : tvS0 P f { nx := fun _ H' => Q .non H', rt := Q } (L2.start N vs) H := by
  obtain ⟨Bf, ow, as, hl, k, hw, hn, d, as', hF, q⟩ := h
  unfold fnV at hF
  split at hF
  · rename_i d' en h1
    cases hF
    refine ⟨runB Bf H, ow, _, ok_start k hw hn, _, h1, fun ow' σ' H' v k' r p => ?_⟩
    exact q v H' (aft_of0 hw k' r) (p.move fun b o e t n => ⟨e, fun z => n (run_sub hw r.hpin z)⟩)
  · rename_i en h1
    cases hF
    refine ⟨runB Bf H, ow, _, ok_start k hw hn, _, h1, fun ow' σ' H' k' r => ?_⟩
    exact q .non H' (aft_of0 hw k' r) .non
  · rename_i ds en h1
    cases hF
    refine ⟨runB Bf H, ow, _, ok_start k hw hn, _, h1, fun ow' σ' H' p xs k' r b1 b2 b3 hp rs => ?_⟩
    exact q (.ref p) H' (aft_of0 hw k'.unins r) ((Rp.lst (new_nb b1 b3) (.inl hp) rs.unins).move fun b o e t n => ⟨e, fun z => n (run_sub hw r.hpin z)⟩)
  · cases hF
end
section
variable {Pg : Program} {w : World} {K : PySem.W.Frag} {mg : Str → Option Value} {base : Heap} {P : Pl}
theorem def_V0 {x : String} {st : Stmt} {N ps : List Str} {k : Nat} {f : FS} (F : Nmd K mg x st ps) (S : FnScope N ps (defScope st))
    (hb : ∀ (fa : Addr) (cdv : Value) (A : Around) (outer : List Env) (s : Shared) (H : Hp) (E : XK), Room k (A.deeper (envOfC x (defScope st) s.heap.objs.size fa cdv)) → VB0 (cxOf CX0 Pg w K mg base N x (defScope st) fa cdv A outer s H E).nox P (defBody st) f) :
    Def Pg w K mg base x (k + 1) ps (spV P ps.length (fnV N.length f)) := by
  obtain ⟨fa, fd, h1, h2, h3⟩ := F.ex
  exact ⟨fa, fd, h1, h2.kp, h3, h2.ok S (len_V rfl) fun cdv A outer s H vs Q E hr h => ⟨_, hb fa cdv A outer s H E hr, body_V0 h⟩, fun_lk h2⟩
/-- a promise by another function of the data, that says no more -/
theorem Def.ofV {x : Str} {k n : Nat} {ps : List Str} {F F' : FF} (D : Def Pg w K mg base x k ps (spV P n F)) (h : ∀ as r, as.length = n → F' as = some r → F as = some r) : Def Pg w K mg base x k ps (spV P n F') := by
  obtain ⟨f, fd, h1, h2, h3, h4, h5⟩ := D.ex
  refine ⟨f, fd, h1, h2, h3, h4.imp fun vs H Q E q => ?_, h5⟩
  obtain ⟨Bf, ow, as, hl, k, hw, hn, d, as', hF, q⟩ := q
  exact ⟨Bf, ow, as, hl, k, hw, hn, d, as', h as _ hl hF, q⟩
theorem Def.ofL {x : Str} {k n : Nat} {ps : List Str} {F F' : FFL} (D : Def Pg w K mg base x k ps (spL P n F)) (h : ∀ as r, as.length = n → F' as = some r → F as = some r) : Def Pg w K mg base x k ps (spL P n F') := by
  obtain ⟨f, fd, h1, h2, h3, h4, h5⟩ := D.ex
  refine ⟨f, fd, h1, h2, h3, h4.imp fun vs H Q E q => ?_, h5⟩
  obtain ⟨Bf, ow, as, hl, k, hw, hn, d, as', hF, q⟩ := q
  exact ⟨Bf, ow, as, hl, k, hw, hn, d, as', h as _ hl hF, q⟩
theorem Def.mono {x : Str} {j k : Nat} {ps : List Str} {sp : Sp} (D : Def Pg w K mg base x j ps sp) (h : j ≤ k) : Def Pg w K mg base x k ps sp := by
  obtain ⟨f, fd, h1, h2, h3, h4, h5⟩ := D.ex
  exact ⟨f, fd, h1, h2, h3, h4.mono h, h5⟩
end

/-! ### calls by keywords alone -/
def permL {α : Type} (π : List Nat) (xs : List α) : List α := π.filterMap fun i => xs[i]?
theorem permL_cons {α : Type} (i : Nat) (π : List Nat) (xs : List α) : permL (i :: π) xs = match xs[i]? with
    | some x => x :: permL π xs
    | none => permL π xs := by
  unfold permL
  rw [List.filterMap_cons]
  cases xs[i]? <;> rfl
theorem permL_vals {xs : List V} {us : List Value} (r : Vals xs us) : ∀ π : List Nat, Vals (permL π xs) (permL π us)
  | [] => .nil
  | i :: π => by
    rw [permL_cons, permL_cons]
    cases e : xs[i]? with
    | none =>
      rw [r.none_of e]
      exact permL_vals r π
    | some x =>
      obtain ⟨u, h1, h2⟩ := r.get e
      rw [h1]
      exact .cons h2 (permL_vals r π)
theorem MdsOk.perm {Bf : Bk} {ow : Nat → Option Addr} {en : En} {H : Hp} {ms : List Md} {vs : List V} (r : MdsOk Bf ow en H ms vs) : ∀ π : List Nat, MdsOk Bf ow en H (permL π ms) (permL π vs)
  | [] => trivial
  | i :: π => by
    rw [permL_cons, permL_cons]
    cases e : ms[i]? with
    | none =>
      have : vs[i]? = none := by
        rw [List.getElem?_eq_none_iff] at e ⊢
        rw [← r.length]
        exact e
      rw [this]
      exact MdsOk.perm r π
    | some m =>
      obtain ⟨v, h1, h2⟩ := r.get e
      rw [h1]
      exact ⟨h2, MdsOk.perm r π⟩
structure Kwd (K : PySem.W.Frag) (mg : Str → Option Value) (x : Str) (ps ks : List Str) (π : List Nat) : Prop where
  ex : ∃ (f : Addr) (fd : FuncData), mg x = some (.ref f) ∧ (∃ oc od osl, K.lookup f = some ⟨oc, od, .func fd, osl⟩) ∧ KBn K fd ps 0 ks (fun _ ws => permL π ws) (fun _ zs => permL π zs)
theorem kwd_of {K : PySem.W.Frag} {mg : Str → Option Value} {x : String} {st : Stmt} {ps ks : List Str} {π : List Nat} (F : Nmd K mg x st ps)
    (h : ∀ (kV doc pm : Value) (an : Option Addr) (cdv ct : Value) (ws : List Value), ws.length = ks.length → bindArgs (PySem.W.fnOf x x (defArgs st) (defBody st) (defScope st) .none kV doc pm an cdv ct) ⟨[], ks.zip ws⟩ = pure (ps.zip (permL π ws))) : Kwd K mg x ps ks π := by
  obtain ⟨f, fd, h1, h2, h3⟩ := F.ex
  obtain ⟨oc, od, kV, doc, pm, an, cdv, ct, osl, rfl, lk, hcd⟩ := h2.ex
  refine ⟨f, _, h1, ⟨oc, od, osl, lk⟩, ⟨fun s us ws _ l1 l2 => ?_, fun _ r2 => permL_vals r2 π⟩⟩
  have : us = [] := List.length_eq_zero_iff.mp l1
  subst this
  exact .of_eq (h kV doc pm an cdv ct ws l2)
section
variable {X : Cx} {P : Pl} {kws : List Keyword} {gm : FM} {pos kpos : Pos} {e : Expr} {fa : FE} {nm : Option Str}
def VK (X : Cx) (P : Pl) (kws : List Keyword) (f : FM) : Prop := PK X kws (tvM P f)
theorem PK.weak {kws : List Keyword} {t t' : TA} (h : PK X kws t) (w : ∀ σ H Q, t' σ H Q → t σ H Q) : PK X kws t' :=
  ⟨fun pos pins s σ H Q I q => h.run pos pins s σ H Q I (w σ H Q q)⟩
theorem vk_nil : VL.VK X P [] mNil := by
  refine PK.weak pk_nil fun σ H Q h => ?_
  obtain ⟨Bf, ow, en, k, d, en', hf, q⟩ := h
  cases hf
  exact q [] ow H k .refl trivial
theorem vk_cons (ha : VE X P e fa) (hr : VL.VK X P kws gm) : VL.VK X P (⟨nm, e, kpos⟩ :: kws) (mCons fa gm) := by
  refine PK.weak (pk_cons ha hr) fun σ H Q h => ?_
  obtain ⟨Bf, ow, en, k, d, en', hf, q⟩ := h
  unfold mCons at hf
  split at hf <;> first | cases hf | skip
  rename_i d1 en1 h1
  split at hf <;> first | cases hf | skip
  rename_i ds en2 h2
  exact ⟨Bf, ow, en, k, _, _, h1, fun v1 ow1 H1 k1 r1 p1 => ⟨Bf, ow1, en1, k1, _, _, h2, fun vs ow2 H2 k2 r2 p2 => q _ ow2 H2 k2 (r1.trans r2) ⟨r2.rp p1, p2⟩⟩⟩
def mPerm (m : Nat) (π : List Nat) (g : FM) : FM := fun en => match g en with
  | some (ms, en1) => if ms.length = m then some (permL π ms, en1) else none
  | none => none
theorem pe_callKw {x : Str} {k : Nat} {ps ks : List Str} {π : List Nat} {sp : Sp} {p : Pos} {tk : TA} (D : Def X.prog X.w X.K X.mg X.base x k ps sp) (W : Kwd X.K X.mg x ps ks π) (hr : Room k X.A) (hg : Gl X x) (hk : PK X kws tk)
    (hall : (backToKw pos (keywordEach kws X.env)).all (·.1.isSome) = true := by rfl) (hks : (backToKw pos (keywordEach kws X.env)).filterMap (·.1) = ks := by rfl) (hdb : (x == ("__debug__" : Str)) = false := by decide)
    (hpl : ((backTo pos (starEach [] X.env)).any (·.1) || (backToKw pos (keywordEach kws X.env)).any (·.1.isNone)) = false := by rfl) :
    PE X (.Call (.Name x p) [] kws pos) (fun σ H Q => tk σ H fun zs H2 => zs.length = ks.length ∧ sp (permL π zs) H2 Q (fun _ _ _ => False)) := by
  obtain ⟨f, fd, h1, h2, h3, h4, oc, od, osl, h5⟩ := D.ex
  obtain ⟨f', fd', g1, ⟨oc', od', osl', g2⟩, g3⟩ := W.ex
  rw [h1] at g1
  cases g1
  rw [h5] at g2
  cases g2
  refine ⟨fun pins s σ H Q I h => ?_⟩
  refine wpAny_Call_Name_kw (ld_glob I hg h1 ?_ hdb)
  refine PySem.W.callWith_KW0 (h₀ := X.base) I.ok.mod.kin h2 hall ?_ hpl
  refine thn (hk.run pos pins s σ H _ I h) fun ws s2 ⟨zs, H2, I2, rz, l2, q2⟩ => ⟨I2.kIn, ?_⟩
  rw [hks]
  exact run_fnN (us := []) (vs := []) h4 hr g3 pass0 I2 .nil rz rfl l2 q2
theorem ve_callKw {x : Str} {k n m : Nat} {ps ks : List Str} {π : List Nat} {ps' : List Nat} {F : FF} {p : Pos} (D : Def X.prog X.w X.K X.mg X.base x k ps (spV ⟨ps', P.tb⟩ n F)) (W : Kwd X.K X.mg x ps ks π) (hr : Room k X.A) (hg : Gl X x) (ha : VL.VK X P kws gm)
    (hm : ks.length = m := by rfl) (hall : (backToKw pos (keywordEach kws X.env)).all (·.1.isSome) = true := by rfl) (hks : (backToKw pos (keywordEach kws X.env)).filterMap (·.1) = ks := by rfl) (hdb : (x == ("__debug__" : Str)) = false := by decide)
    (hpl : ((backTo pos (starEach [] X.env)).any (·.1) || (backToKw pos (keywordEach kws X.env)).any (·.1.isNone)) = false := by rfl)
    : VE X P (.Call (.Name x p) [] kws pos) (eCallF ps' n F (mPerm m π gm)) :=
  PE.weak (pe_callKw D W hr hg ha hall hks hdb hpl) fun σ H Q h => by
    subst hm
    have h2 := tv_callF (P := P) (P' := ⟨ps', P.tb⟩) rfl (E := fun _ _ _ => False) σ H Q h
    obtain ⟨Bf, ow, en, k, ms, en1, hm, q⟩ := h2
    unfold mPerm at hm
    split at hm <;> first | cases hm | skip
    rename_i ms0 en2 h0
    split at hm <;> first | cases hm | skip
    rename_i hl
    refine ⟨Bf, ow, en, k, ms0, _, h0, fun vs ow1 H1 k1 r1 m1 => ⟨by rw [← m1.length]; exact hl, ?_⟩⟩
    have h9 : spV ⟨ps', P.tb⟩ n F (permL π vs ++ []) H1 Q (fun _ _ _ => False) := q (permL π vs) ow1 H1 k1 r1 (m1.perm π)
    rw [List.append_nil] at h9
    exact h9
theorem vf_callKw {x : Str} {k n m : Nat} {ps ks : List Str} {π : List Nat} {ps' : List Nat} {F : FFL} {p : Pos} (D : Def X.prog X.w X.K X.mg X.base x k ps (spL ⟨ps', P.tb⟩ n F)) (W : Kwd X.K X.mg x ps ks π) (hr : Room k X.A) (hg : Gl X x) (ha : VL.VK X P kws gm)
    (hm : ks.length = m := by rfl) (hall : (backToKw pos (keywordEach kws X.env)).all (·.1.isSome) = true := by rfl) (hks : (backToKw pos (keywordEach kws X.env)).filterMap (·.1) = ks := by rfl) (hdb : (x == ("__debug__" : Str)) = false := by decide)
    (hpl : ((backTo pos (starEach [] X.env)).any (·.1) || (backToKw pos (keywordEach kws X.env)).any (·.1.isNone)) = false := by rfl)
    : VF X P (.Call (.Name x p) [] kws pos) (lCallF ps' n F (mPerm m π gm)) :=
  PE.weak (pe_callKw D W hr hg ha hall hks hdb hpl) fun σ H Q h => by
    subst hm
    have h2 := tvF_callF (P := P) (P' := ⟨ps', P.tb⟩) rfl (E := fun _ _ _ => False) σ H Q h
    obtain ⟨Bf, ow, en, k, ms, en1, hm, q⟩ := h2
    unfold mPerm at hm
    split at hm <;> first | cases hm | skip
    rename_i ms0 en2 h0
    split at hm <;> first | cases hm | skip
    rename_i hl
    refine ⟨Bf, ow, en, k, ms0, _, h0, fun vs ow1 H1 k1 r1 m1 => ⟨by rw [← m1.length]; exact hl, ?_⟩⟩
    have h9 : spL ⟨ps', P.tb⟩ n F (permL π vs ++ []) H1 Q (fun _ _ _ => False) := q (permL π vs) ow1 H1 k1 r1 (m1.perm π)
    rw [List.append_nil] at h9
    exact h9
end
end VL

namespace VL
open PySem PySem.Spec
open PyProof.Rows L2
/-! ### values that may reach lists of one's own, for a call that gives back a flat value -/
abbrev NoB : Addr → Prop := fun _ => False
theorem Rp.no {H : Hp} {B : Addr → Prop} {d : D} {v : V} (r : Rp H B d v) : Rp H NoB d v := r.move fun b o e _ _ => ⟨e, fun z => z⟩
theorem RpL.no {H : Hp} {B : Addr → Prop} {d : List D} {v : List V} (r : RpL H B d v) : RpL H NoB d v := r.move fun b o e _ _ => ⟨e, fun z => z⟩
abbrev FU := En → Option D
def tvU (P : Pl) (f : FU) : TE := fun σ H Q => ∃ Bf ow en, Ok P Bf ow en σ H ∧ ∃ d, f en = some d ∧ ∀ v H', Ok P Bf ow en σ H' → Ext H H' → Rp H' NoB d v → Q v H'
def VU (X : Cx) (P : Pl) (e : Expr) (f : FU) : Prop := PE X e (tvU P f)
abbrev FUL := En → Option (List D)
def tvUL (P : Pl) (f : FUL) : TA := fun σ H Q => ∃ Bf ow en, Ok P Bf ow en σ H ∧ ∃ ds, f en = some ds ∧ ∀ vs H', Ok P Bf ow en σ H' → Ext H H' → RpL H' NoB ds vs → Q vs H'
def VUL (X : Cx) (P : Pl) (es : List Expr) (f : FUL) : Prop := PA X es (tvUL P f)
def tvAU (P : Pl) (f : FA) : TA := fun σ H Q => ∃ Bf ow en, Ok P Bf ow en σ H ∧ ∃ ds en', f en = some (ds, en') ∧ ∀ vs ow' H', Ok P Bf ow' en' σ H' → Rel P H ow H' ow' → RpL H' NoB ds vs → Q vs H'
def VAU (X : Cx) (P : Pl) (es : List Expr) (f : FA) : Prop := PA X es (tvAU P f)
section
variable {X : Cx} {P : Pl} {a b e : Expr} {es : List Expr} {fa : FE} {fu : FU} {gu : FUL} {ga : FA} {pos : Pos}
def uVar (i : Nat) : FU := fun en => match en[i]? with
  | some (.va d) => some d
  | some (.vn d) => some d
  | some (.ow ds) => some (.list ds)
  | _ => none
theorem vu_var {i : Nat} {x : Str} (hN : X.N[i]? = some x) (hv : Vis X.env.scope x := by first | exact .inl rfl | exact .inr (.inl rfl) | exact .inr (.inr rfl)) (hd : (x == ("__debug__" : Str)) = false := by decide) (hcd : (x == ("__classdict__" : Str)) = false := by decide) : VU X P (.Name x pos) (uVar i) := by
  refine PE.weak (pe_var hN hv hd hcd) fun σ H Q h => ?_
  obtain ⟨Bf, ow, en, k, d, hf, q⟩ := h
  unfold uVar at hf
  split at hf
  · rename_i d' he
    cases hf
    obtain ⟨v, h1, h2⟩ := k.hva i d he
    exact ⟨v, h1, q v H k .refl h2.no⟩
  · rename_i d' he
    cases hf
    obtain ⟨v, h1, h2⟩ := k.hvn i d he
    exact ⟨v, h1, q v H k .refl h2.rp.no⟩
  · rename_i ds he
    cases hf
    obtain ⟨a, xs, h1, h2, h3, h4⟩ := k.hown i ds he
    exact ⟨_, h2, q _ H k .refl (.lst (fun z => z) (.inl h3) h4.no)⟩
  · cases hf
theorem vul_nil : VUL X P [] (fun _ => some []) := by
  refine PA.weak pa_nil fun σ H Q h => ?_
  obtain ⟨Bf, ow, en, k, d, hf, q⟩ := h
  cases hf
  exact q [] H k .refl .nil
def ulCons (f : FU) (g : FUL) : FUL := fun en => match f en with
  | some d => match g en with
    | some ds => some (d :: ds)
    | none => none
  | none => none
theorem vul_cons (ha : VU X P e fu) (hr : VUL X P es gu) (hs : starEach (e :: es) X.env = (false, eval e X.env) :: starEach es X.env := by rfl) : VUL X P (e :: es) (ulCons fu gu) := by
  refine PA.weak (pa_cons ha hr hs) fun σ H Q h => ?_
  obtain ⟨Bf, ow, en, k, d, hf, q⟩ := h
  unfold ulCons at hf
  split at hf <;> first | cases hf | skip
  rename_i d1 h1
  split at hf <;> first | cases hf | skip
  rename_i ds h2
  exact ⟨Bf, ow, en, k, _, h1, fun v1 H1 k1 x1 p1 => ⟨Bf, ow, en, k1, _, h2, fun vs H2 k2 x2 p2 => q _ H2 k2 (x1.trans x2) (.cons (x2.rp p1) p2)⟩⟩
def uLst (g : FUL) : FU := fun en => match g en with
  | some ds => if ds.length ≤ sizeLine then some (.list ds) else none
  | none => none
def uTup (g : FUL) : FU := fun en => match g en with
  | some ds => if ds.length ≤ sizeLine then some (.tuple ds) else none
  | none => none
theorem vu_lst (h : VUL X P es gu) : VU X P (.List es pos) (uLst gu) := by
  refine PE.weak (pe_lst h) fun σ H Q h => ?_
  obtain ⟨Bf, ow, en, k, d, hf, q⟩ := h
  unfold uLst at hf
  split at hf <;> first | cases hf | skip
  rename_i ds h1
  split at hf <;> first | cases hf | skip
  rename_i hz
  exact ⟨Bf, ow, en, k, _, h1, fun vs H1 k1 x1 p1 => ⟨by rw [← p1.length]; exact hz, fun p hp => q _ _ (k1.ext (.upd hp)) (x1.trans (.upd hp)) (.lst (fun z => z) (.inl upd_same) ((Ext.upd hp).rpl p1))⟩⟩
theorem vu_tup {x1} (h : VUL X P es gu) : VU X P (.Tuple es x1 pos) (uTup gu) := by
  refine PE.weak (pe_tup h) fun σ H Q h => ?_
  obtain ⟨Bf, ow, en, k, d, hf, q⟩ := h
  unfold uTup at hf
  split at hf <;> first | cases hf | skip
  rename_i ds h1
  split at hf <;> first | cases hf | skip
  rename_i hz
  exact ⟨Bf, ow, en, k, _, h1, fun vs H1 k1 x1 p1 => ⟨by rw [← p1.length]; exact hz, fun p hp => q _ _ (k1.ext (.upd hp)) (x1.trans (.upd hp)) (.tup (fun z => z) upd_same ((Ext.upd hp).rpl p1))⟩⟩
def auEnd (g : FUL) : FA := fun en => match g en with
  | some ds => some (ds, en)
  | none => none
theorem vau_end (h : VUL X P es gu) : VAU X P es (auEnd gu) := PA.weak h fun σ H Q h => by
  obtain ⟨Bf, ow, en, k, d, en', hf, q⟩ := h
  unfold auEnd at hf
  split at hf <;> first | cases hf | skip
  rename_i ds h1
  exact ⟨Bf, ow, _, k, _, h1, fun vs H1 k1 x1 p1 => q vs ow H1 k1 x1.rel p1⟩
theorem vau_cons (ha : VE X P e fa) (hr : VAU X P es ga) (hs : starEach (e :: es) X.env = (false, eval e X.env) :: starEach es X.env := by rfl) : VAU X P (e :: es) (aCons fa ga) := by
  refine PA.weak (pa_cons ha hr hs) fun σ H Q h => ?_
  obtain ⟨Bf, ow, en, k, d, en', hf, q⟩ := h
  unfold aCons at hf
  split at hf <;> first | cases hf | skip
  rename_i d1 en1 h1
  split at hf <;> first | cases hf | skip
  rename_i ds en2 h2
  exact ⟨Bf, ow, en, k, _, _, h1, fun v1 ow1 H1 k1 r1 p1 => ⟨Bf, ow1, en1, k1, _, _, h2, fun vs ow2 H2 k2 r2 p2 => q _ ow2 H2 k2 (r1.trans r2) (.cons (r2.rp p1).no p2)⟩⟩
def eCallU (n : Nat) (F : FF) (g : FA) : FE := fun en => match g en with
  | some (ds, en1) => if ds.length = n then (match F (ds.map Sl.va) with
    | some (d, _) => if flatD d = true then some (d, en1) else none
    | none => none) else none
  | none => none
theorem ve_callU {x : Str} {k n : Nat} {ps : List Str} {F : FF} {p : Pos} (D : Def X.prog X.w X.K X.mg X.base x k ps (spV ⟨[], P.tb⟩ n F)) (hr : Room k X.A) (hg : Gl X x) (ha : VAU X P (e :: es) ga)
    (hdb : (x == ("__debug__" : Str)) = false := by decide) (he : starEach (e :: es) X.env = (false, eval e X.env) :: starEach es X.env := by rfl) (hpl : (backTo pos (starEach es X.env)).any (·.1) = false := by rfl) :
    VE X P (.Call (.Name x p) (e :: es) [] pos) (eCallU n F ga) := by
  obtain ⟨f, fd, h1, h2, h3, h4, _⟩ := D.ex
  refine PE.weak (pe_call (E := fun _ _ _ => False) h4 hr hg h1 h2 h3 .nil pass0 ha hdb he hpl) fun σ H Q h => ?_
  obtain ⟨Bf, ow, en, k, d, en', hf, q⟩ := h
  unfold eCallU at hf
  split at hf <;> first | cases hf | skip
  rename_i ds en1 g1
  split at hf <;> first | cases hf | skip
  rename_i hl
  split at hf <;> first | cases hf | skip
  rename_i d' as' hF
  split at hf <;> first | cases hf | skip
  rename_i hfl
  refine ⟨Bf, ow, en, k, ds, _, g1, fun vs ow1 H1 k1 r1 p1 => ?_⟩
  show spV ⟨[], P.tb⟩ n F (vs ++ []) H1 Q _
  rw [List.append_nil]
  have kc : Ok ⟨[], P.tb⟩ ⟨fun _ => False, fun _ => False⟩ (fun _ => none) (ds.map Sl.va) (vs.map some) H1 := by
    refine ⟨by simp [p1.length], fun j d e => ?_, fun j d e => ?_, fun j s e f => ?_, fun j a e => (nomatch e), fun j l a e _ => (nomatch e), fun b z => z.elim, fun b z => z.elim, fun j a e => (nomatch e), k1.htab⟩
    · rw [List.getElem?_map] at e
      cases em : ds[j]? with
      | none => rw [em] at e; cases e
      | some m =>
        rw [em] at e
        cases e
        obtain ⟨v, w1, w2⟩ := p1.get em
        exact ⟨v, by rw [List.getElem?_map, w1]; rfl, w2.move fun b o e _ _ => ⟨e, fun z => z.elim (fun z => z) fun ⟨_, z⟩ => nomatch z⟩⟩
    · rw [List.getElem?_map] at e
      cases em : ds[j]? with
      | none => rw [em] at e; cases e
      | some m => rw [em] at e; cases e
    · rw [List.getElem?_map] at e
      cases em : ds[j]? with
      | none => rw [em] at e; cases e
      | some m => rw [em] at e; cases e; cases f
  have noN : ∀ (j : Nat) (d : VL.D), (ds.map Sl.va)[j]? ≠ some (Sl.vn d) := fun j d e => by
    rw [List.getElem?_map] at e
    cases em : ds[j]? with
    | none => rw [em] at e; cases e
    | some m => rw [em] at e; cases e
  refine ⟨_, fun _ => none, _, by rw [List.length_map]; exact hl, kc, (fun i a e => (nomatch e)), noN, d, as', hF, fun v H' af p => ?_⟩
  have ex : ExtT P.tb H1 H' := ⟨fun b o e t => af.keep b o e t fun j z => (nomatch z), af.dom, fun _ => af.tab⟩
  exact q v ow1 H' (k1.extT ex) (r1.trans ex.rel) (p.flat hfl)
end
end VL

namespace VL
open PySem PySem.Spec
open PyProof.Rows L2

theorem pl_not {i : Nat} {ps : List Nat} {tb : List (Addr × Str)} (h : i ∉ ps) : i ∉ (⟨ps, tb⟩ : Pl) := h
theorem pl_all {vs ps : List Nat} {tb : List (Addr × Str)} (h : ∀ i ∈ vs, i ∉ ps) : ∀ i ∈ vs, i ∉ (⟨ps, tb⟩ : Pl) := h
/-! ### dicts of one's own: keys by data -/
def keyF : D → Option Key
  | .int n => some (.inl n)
  | .str x => some (.inr x)
  | _ => none
def keysF : List D → Option (List Key)
  | [] => some []
  | d :: r => match keyF d with
    | some k => match keysF r with
      | some ks => some (k :: ks)
      | none => none
    | none => none
/-- a key: a number or a text (t false), a tuple of these (t true) -/
def keyD (t : Bool) : D → Option (List Key)
  | .tuple ds => if t then keysF ds else none
  | d => if t then none else (keyF d).map fun k => [k]
/-- a key's data -/
def kToD (t : Bool) (k : List Key) : D := if t then .tuple (k.map kD) else match k with
  | k :: _ => kD k
  | [] => .none
theorem keyF_v {H : Hp} {B : Addr → Prop} {d : D} {v : V} {k : Key} (r : Rp H B d v) (e : keyF d = some k) : v = kV k := by
  cases r <;> simp [keyF] at e <;> subst e <;> rfl
theorem keysF_v {H : Hp} {B : Addr → Prop} : ∀ {ds : List D} {vs : List V} {ks : List Key}, RpL H B ds vs → keysF ds = some ks → vs = ks.map kV
  | [], _, _, .nil, e => by cases e; rfl
  | d :: ds, _, ks, .cons (v := v) (vs := vs) r rs, e => by
    unfold keysF at e
    split at e <;> first | cases e | skip
    rename_i k h1
    split at e <;> first | cases e | skip
    rename_i ks' h2
    rw [List.map_cons, keyF_v r h1, keysF_v rs h2]
theorem keyD_f {H : Hp} {B : Addr → Prop} {d : D} {v : V} {k : List Key} (r : Rp H B d v) (e : keyD false d = some k) : ∃ k0, k = [k0] ∧ v = kV k0 := by
  unfold keyD at e
  split at e
  · cases e
  · cases h : keyF d with
    | none => rw [h] at e; cases e
    | some k0 =>
      rw [h] at e
      cases e
      exact ⟨k0, rfl, keyF_v r h⟩
theorem keyD_t {H : Hp} {B : Addr → Prop} {d : D} {v : V} {k : List Key} (r : Rp H B d v) (e : keyD true d = some k) : ∃ b, v = .ref b ∧ H b = some (.tup (k.map kV)) := by
  unfold keyD at e
  split at e
  · rename_i ds
    cases r with
    | tup nb r rs =>
      have := keysF_v rs e
      subst this
      exact ⟨_, rfl, r⟩
  · cases e
def valD (kvs : DKV) (k : List Key) : Option D := (kvs.find? fun p => decide (p.1 = k)).map (·.2)
def putD (kvs : DKV) (k : List Key) (d : D) : DKV :=
  if (kvs.any fun p => decide (p.1 = k)) = true then kvs.map (fun p => if p.1 = k then (p.1, d) else p) else kvs ++ [(k, d)]
def RelO' (H : Hp) (B : Addr → Prop) : Option D → Option V → Prop
  | some d, some v => Rp H B d v
  | none, none => True
  | _, _ => False
theorem pr_val {κ : Type} [DecidableEq κ] {H : Hp} {B : Addr → Prop} {f : κ → List Key} (hf : ∀ a b, f a = f b → a = b) (k : κ) : ∀ {kvs : DKV} {ks : List (κ × V)}, Paired (fun (p : List Key × D) (q : κ × V) => p.1 = f q.1 ∧ Rp H B p.2 q.2) kvs ks → RelO' H B (valD kvs (f k)) (valV ks k)
  | _, _, .nil => trivial
  | _, _, .cons (a := p) (b := q) r rs => by
    by_cases h : q.1 = k
    · have h' : p.1 = f k := by rw [r.1, h]
      have e1 : ∀ kvs, valD (p :: kvs) (f k) = some p.2 := fun kvs => by simp [valD, List.find?_cons, h']
      have e2 : ∀ ks, valV (q :: ks) k = some q.2 := fun ks => by simp [valV, List.find?_cons, h]
      rw [e1, e2]
      exact r.2
    · have h' : ¬ p.1 = f k := fun z => h (hf _ _ (r.1.symm.trans z))
      have e1 : ∀ kvs, valD (p :: kvs) (f k) = valD kvs (f k) := fun kvs => by simp [valD, List.find?_cons, h']
      have e2 : ∀ ks, valV (q :: ks) k = valV ks k := fun ks => by simp [valV, List.find?_cons, h]
      rw [e1, e2]
      exact pr_val hf k rs
theorem pr_any {κ : Type} [DecidableEq κ] {H : Hp} {B : Addr → Prop} {f : κ → List Key} (hf : ∀ a b, f a = f b → a = b) (k : κ) : ∀ {kvs : DKV} {ks : List (κ × V)}, Paired (fun (p : List Key × D) (q : κ × V) => p.1 = f q.1 ∧ Rp H B p.2 q.2) kvs ks → (kvs.any fun p => decide (p.1 = f k)) = ks.any fun kv => decide (kv.1 = k)
  | _, _, .nil => rfl
  | _, _, .cons (a := p) (b := q) r rs => by
    rw [List.any_cons, List.any_cons, pr_any hf k rs]
    congr 1
    rw [decide_eq_decide, r.1]
    exact ⟨fun z => hf _ _ z, fun z => by rw [z]⟩
theorem pr_snoc {κ : Type} {F : List Key × D → κ × V → Prop} {p : List Key × D} {q : κ × V} (r : F p q) : ∀ {kvs : DKV} {ks : List (κ × V)}, Paired F kvs ks → Paired F (kvs ++ [p]) (ks ++ [q])
  | _, _, .nil => .cons r .nil
  | _, _, .cons h t => .cons h (pr_snoc r t)
theorem pr_map {κ : Type} [DecidableEq κ] {H : Hp} {B : Addr → Prop} {f : κ → List Key} (hf : ∀ a b, f a = f b → a = b) (k : κ) {d : D} {v : V} (rd : Rp H B d v) : ∀ {kvs : DKV} {ks : List (κ × V)}, Paired (fun (p : List Key × D) (q : κ × V) => p.1 = f q.1 ∧ Rp H B p.2 q.2) kvs ks →
    Paired (fun (p : List Key × D) (q : κ × V) => p.1 = f q.1 ∧ Rp H B p.2 q.2) (kvs.map (fun p => if p.1 = f k then (p.1, d) else p)) (ks.map fun kv => if kv.1 = k then (kv.1, v) else kv)
  | _, _, .nil => .nil
  | _, _, .cons (a := p) (b := q) r rs => by
    rw [List.map_cons, List.map_cons]
    refine .cons ?_ (pr_map hf k rd rs)
    by_cases e : q.1 = k
    · rw [if_pos e, if_pos (by rw [r.1, e])]
      exact ⟨r.1, rd⟩
    · rw [if_neg e, if_neg fun z => e (hf _ _ (r.1.symm.trans z))]
      exact r
theorem pr_put {κ : Type} [DecidableEq κ] {H : Hp} {B : Addr → Prop} {f : κ → List Key} (hf : ∀ a b, f a = f b → a = b) (k : κ) {d : D} {v : V} (rd : Rp H B d v) {kvs : DKV} {ks : List (κ × V)} (h : Paired (fun (p : List Key × D) (q : κ × V) => p.1 = f q.1 ∧ Rp H B p.2 q.2) kvs ks) :
    Paired (fun (p : List Key × D) (q : κ × V) => p.1 = f q.1 ∧ Rp H B p.2 q.2) (putD kvs (f k) d) (putK ks k v) := by
  unfold putD putK
  rw [pr_any hf k h]
  split
  · exact pr_map hf k rd h
  · exact pr_snoc (p := (f k, d)) (q := (k, v)) ⟨rfl, rd⟩ h
theorem single_inj : ∀ a b : Key, [a] = [b] → a = b := fun a b e => by injection e
theorem DcAt.get {H : Hp} {B : Addr → Prop} {a : Addr} {t : Bool} {kvs : DKV} {dk : D} {y : V} {k : List Key} (h : DcAt H B a t kvs) (r : Rp H B dk y) (e : keyD t dk = some k) : ∃ o, DGet H a y o ∧ RelO' H B (valD kvs k) o := by
  cases t with
  | false =>
    obtain ⟨ks, h1, h2⟩ := h
    obtain ⟨k0, rfl, rfl⟩ := keyD_f r e
    exact ⟨_, DGet.k h1, pr_val (f := fun k => [k]) single_inj k0 h2⟩
  | true =>
    obtain ⟨ks, h1, h2⟩ := h
    obtain ⟨b, rfl, hb⟩ := keyD_t r e
    exact ⟨_, DGet.t h1 hb, pr_val (f := fun k => k) (fun _ _ z => z) k h2⟩
theorem Paired.len {α β : Type} {F : α → β → Prop} : ∀ {l₁ : List α} {l₂ : List β}, Paired F l₁ l₂ → l₁.length = l₂.length
  | _, _, .nil => rfl
  | _, _, .cons _ t => congrArg (· + 1) (Paired.len t)
/-- written -/
theorem DcAt.put {H : Hp} {B : Addr → Prop} {a : Addr} {t : Bool} {kvs : DKV} {dk d : D} {y v : V} {k : List Key} (h : DcAt H B a t kvs) (ha : B a) (r : Rp H B dk y) (e : keyD t dk = some k) (rd : Rp H B d v) (hl : kvs.length < sizeLine) : ∃ o', NT o' ∧ DPut H a y v (upd H a o') ∧ OwnAt (upd H a o') B a (.dc t (putD kvs k d)) := by
  have mv : ∀ o', ∀ b o, H b = some o → NT o → ¬ B b → upd H a o' b = some o ∧ ¬ B b := fun o' b o h t n => ⟨by rw [upd_ne fun z => n (by rw [z]; exact ha)]; exact h, n⟩
  cases t with
  | false =>
    obtain ⟨ks, h1, h2⟩ := h
    obtain ⟨k0, rfl, rfl⟩ := keyD_f r e
    refine ⟨.dK (putK ks k0 v), (fun _ z => nomatch z), DPut.k h1 (by rw [← Paired.len h2]; exact hl), _, upd_same, ?_⟩
    exact Paired.mapP (pr_put (f := fun k => [k]) single_inj k0 rd h2) fun p q z => ⟨z.1, z.2.move (mv _)⟩
  | true =>
    obtain ⟨ks, h1, h2⟩ := h
    obtain ⟨b, rfl, hb⟩ := keyD_t r e
    refine ⟨.dT (putK ks k v), (fun _ z => nomatch z), DPut.t h1 hb (by rw [← Paired.len h2]; exact hl), _, upd_same, ?_⟩
    exact Paired.mapP (pr_put (f := fun k => k) (fun _ _ z => z) k rd h2) fun p q z => ⟨z.1, z.2.move (mv _)⟩
theorem DcAt.isD {H : Hp} {B : Addr → Prop} {a : Addr} {t : Bool} {kvs : DKV} (h : DcAt H B a t kvs) : IsD H a := by
  cases t with
  | false =>
    obtain ⟨ks, h1, h2⟩ := h
    exact .inl ⟨_, .inl h1⟩
  | true =>
    obtain ⟨ks, h1, h2⟩ := h
    exact .inr ⟨_, .inl h1⟩

def isDc : Option Sl → Bool
  | some (.dc _ _) => true
  | _ => false
theorem isDc_of {o : Option Sl} (h : isDc o = true) : ∃ t kvs, o = some (.dc t kvs) := by
  unfold isDc at h
  split at h
  · exact ⟨_, _, rfl⟩
  · cases h
section
variable {X : Cx} {P : Pl} {a b e ix : Expr} {es : List Expr} {fa fb fc : FE} {ga : FA} {pos apos cpos : Pos}
/-- x = {} -/
def sNewD (i : Nat) (t : Bool) : FS := fun en => if i < en.length then some (.nx (en.set i (.dc t []))) else none
theorem put_relO {ow ow1 : Nat → Option Addr} {H H1 : Hp} {p : Addr} {i : Nat} (hP : i ∉ P) (r : Rel P H ow H1 ow1) (hp : H p = none) : RelS P H ow H1 (putOw ow1 i p) := put_rel hP r hp
theorem vs_newD {i : Nat} {x : Str} {pos' dpos : Pos} (t : Bool) (hN : X.N.Nodup) (hi : X.N[i]? = some x) (hx : Loc X.env.scope x := by first | exact .inl rfl | exact .inr rfl) (hP : i ∉ P) (hs : swapsWith (.Dict [] [] dpos) (some (.Name x pos')) pos.line X.env = pure false := by rfl)
    (hf : X.fn x = true ∨ X.env.scope.names.lookup x = some .local := by first | exact .inl rfl | exact .inr rfl | assumption) : VS X P (.Assign [.Name x pos'] (.Dict [] [] dpos) pos) (sNewD i t) := by
  have key : ∀ (Dn : Ends) (σ : L2.St) (H : Hp), tvS P (sNewD i t) Dn σ H → ∀ p, H p = none → ∀ o', NT o' → OwnAt (upd H p o') NoB p (.dc t []) → Dn.nx (σ.set i (some (.ref p))) (upd H p o') := fun Dn σ H h p hp o' nt ho => by
    obtain ⟨Bf, ow, en, k, o, hf, q⟩ := h
    unfold sNewD at hf
    split at hf <;> first | cases hf | skip
    rename_i hl
    have np := k.nb hp
    have ho2 : OwnAt (upd H p o') (blk (insB Bf p) ow) p (.dc t []) := by
      cases t with
      | false =>
        obtain ⟨ks, h1, h2⟩ := ho
        cases h2
        exact ⟨[], h1, .nil⟩
      | true =>
        obtain ⟨ks, h1, h2⟩ := ho
        cases h2
        exact ⟨[], h1, .nil⟩
    exact q _ _ _ ((k.avoid hp).putO rfl hP hl (fun z => np (.inl z)) (fun z => k.hod p z hp) (fun j z => np (.inr ⟨j, z⟩)) ho2) (put_rel hP (Ext.upd hp).rel hp)
  cases t with
  | false => exact PS.weak (ps_set hN hi hx pe_dnewK hs hf) fun Dn σ H h p hp => key Dn σ H h p hp _ (fun _ z => nomatch z) ⟨[], upd_same, .nil⟩
  | true => exact PS.weak (ps_set hN hi hx pe_dnewT hs hf) fun Dn σ H h p hp => key Dn σ H h p hp _ (fun _ z => nomatch z) ⟨[], upd_same, .nil⟩
/-- x[k] = e -/
def sPutD (i : Nat) (f g : FE) : FS := fun en => match f en with
  | some (d, en1) => if isDc en1[i]? then (match g en1 with
    | some (z, en2) => match en2[i]? with
      | some (.dc t kvs) => match keyD t z with
        | some k => if kvs.length < sizeLine then some (.nx (en2.set i (.dc t (putD kvs k d)))) else none
        | none => none
      | _ => none
    | none => none) else none
  | none => none
theorem vs_putD {i : Nat} {x : Str} {p' : Pos} (hu : X.A.units + 64 < cLine) (hN : X.N[i]? = some x) (hv : Vis X.env.scope x := by first | exact .inl rfl | exact .inr (.inl rfl) | exact .inr (.inr rfl)) (hx : VE X P ix fb) (he : VE X P e fa)
    (hd : (x == ("__debug__" : Str)) = false := by decide) (hcd : (x == ("__classdict__" : Str)) = false := by decide) (hs : swapsWith e (some (.Subscript (.Name x p') ix apos)) pos.line X.env = pure false := by rfl) :
    VS X P (.Assign [.Subscript (.Name x p') ix apos] e pos) (sPutD i fa fb) :=
  PS.weak (ps_dput (by omega) (pe_var hN hv hd hcd) hx he hs) fun Dn σ H h => by
    obtain ⟨Bf, ow, en, k, o, hf, q⟩ := h
    unfold sPutD at hf
    split at hf <;> first | cases hf | skip
    rename_i d en1 h1
    split at hf <;> first | cases hf | skip
    rename_i h0
    obtain ⟨t0, kvs0, e0⟩ := isDc_of h0
    refine ⟨Bf, ow, en, k, d, en1, h1, fun v ow1 H1 k1 r1 p1 => ?_⟩
    obtain ⟨a, g1, g2, g3⟩ := k1.hdc i t0 kvs0 e0
    split at hf <;> first | cases hf | skip
    rename_i z en2 h2
    split at hf <;> first | cases hf | skip
    rename_i t kvs h3
    split at hf <;> first | cases hf | skip
    rename_i kk hk
    split at hf <;> first | cases hf | skip
    rename_i hl
    refine ⟨_, g2, Bf, ow1, en1, k1, _, en2, h2, fun u ow2 H2 k2 r2 p2 => ?_⟩
    obtain ⟨a', w1, w2, w3⟩ := dc_back k1 k2 r2 h3
    rw [g1] at w1
    cases w1
    obtain ⟨o', nt, hp, ho⟩ := w3.put (.inr ⟨i, w2⟩) p2 hk (r2.rp p1) hl
    obtain ⟨k3, r3⟩ := k2.wrO w2 rfl nt ho
    exact ⟨a, _, rfl, hp, q _ _ _ k3 ((r1.trans r2).trans r3).s⟩
/-- x[k] -/
def eGetD (i : Nat) (g : FE) : FE := fun en => if isDc en[i]? then (match g en with
  | some (z, en1) => match en1[i]? with
    | some (.dc t kvs) => match keyD t z with
      | some k => match valD kvs k with
        | some d => some (d, en1)
        | none => none
      | none => none
    | _ => none
  | none => none) else none
theorem ve_getD {i : Nat} {x : Str} {p' : Pos} (hu : X.A.units + 64 < cLine) (hN : X.N[i]? = some x) (hv : Vis X.env.scope x := by first | exact .inl rfl | exact .inr (.inl rfl) | exact .inr (.inr rfl)) (hx : VE X P ix fb) (hs : NoSl ix := by intro _ _; rfl)
    (hd : (x == ("__debug__" : Str)) = false := by decide) (hcd : (x == ("__classdict__" : Str)) = false := by decide) : VE X P (.Subscript (.Name x p') ix pos) (eGetD i fb) :=
  PE.weak (pe_dget (by omega) (pe_var hN hv hd hcd) hx hs) fun σ H Q h => by
    obtain ⟨Bf, ow, en, k, d, en', hf, q⟩ := h
    unfold eGetD at hf
    split at hf <;> first | cases hf | skip
    rename_i h0
    obtain ⟨t0, kvs0, e0⟩ := isDc_of h0
    obtain ⟨a, g1, g2, g3⟩ := k.hdc i t0 kvs0 e0
    split at hf <;> first | cases hf | skip
    rename_i z en1 h1
    split at hf <;> first | cases hf | skip
    rename_i t kvs h2
    split at hf <;> first | cases hf | skip
    rename_i kk hk
    split at hf <;> first | cases hf | skip
    rename_i d' h3
    refine ⟨_, g2, Bf, ow, en, k, _, _, h1, fun v ow1 H1 k1 r1 p1 => ?_⟩
    obtain ⟨a', w1, w2, w3⟩ := dc_back k k1 r1 h2
    rw [g1] at w1
    cases w1
    obtain ⟨o, u1, u2⟩ := w3.get p1 hk
    rw [h3] at u2
    cases o with
    | none => exact u2.elim
    | some v' => exact ⟨a, v', rfl, u1, q v' ow1 H1 k1 r1 u2⟩
/-- x.get(k, e) -/
def eGetDf (i : Nat) (g f : FE) : FE := fun en => if isDc en[i]? then (match g en with
  | some (z, en1) => match f en1 with
    | some (y, en2) => match en2[i]? with
      | some (.dc t kvs) => match keyD t z with
        | some k => some ((valD kvs k).getD y, en2)
        | none => none
      | _ => none
    | none => none
  | none => none) else none
theorem ve_getDf {i : Nat} {x : Str} {p' : Pos} {f : Expr} (hu : X.A.units + 64 < cLine) (hN : X.N[i]? = some x) (hv : Vis X.env.scope x := by first | exact .inl rfl | exact .inr (.inl rfl) | exact .inr (.inr rfl)) (hx : VE X P ix fb) (hy : VE X P f fc)
    (m : M2 X (.Name x p') "get" apos ix f cpos := by exact ⟨rfl, rfl, rfl, rfl⟩)
    (hd : (x == ("__debug__" : Str)) = false := by decide) (hcd : (x == ("__classdict__" : Str)) = false := by decide) : VE X P (.Call (.Attribute (.Name x p') "get" apos) [ix, f] [] cpos) (eGetDf i fb fc) :=
  PE.weak (pe_dget2 (by omega) (pe_var hN hv hd hcd) hx hy m) fun σ H Q h => by
    obtain ⟨Bf, ow, en, k, d, en', hf, q⟩ := h
    unfold eGetDf at hf
    split at hf <;> first | cases hf | skip
    rename_i h0
    obtain ⟨t0, kvs0, e0⟩ := isDc_of h0
    obtain ⟨a, g1, g2, g3⟩ := k.hdc i t0 kvs0 e0
    split at hf <;> first | cases hf | skip
    rename_i z en1 h1
    split at hf <;> first | cases hf | skip
    rename_i y en2 h2
    split at hf <;> first | cases hf | skip
    rename_i t kvs h3
    split at hf <;> first | cases hf | skip
    rename_i kk hk
    refine ⟨_, g2, a, rfl, g3.isD, Bf, ow, en, k, _, _, h1, fun v ow1 H1 k1 r1 p1 => ⟨Bf, ow1, en1, k1, _, _, h2, fun u ow2 H2 k2 r2 p2 => ?_⟩⟩
    obtain ⟨a', w1, w2, w3⟩ := dc_back k k2 (r1.trans r2) h3
    rw [g1] at w1
    cases w1
    obtain ⟨o, u1, u2⟩ := w3.get (r2.rp p1) hk
    refine ⟨o, u1, q _ ow2 H2 k2 (r1.trans r2) ?_⟩
    cases hv : valD kvs kk with
    | none =>
      rw [hv] at u2
      cases o with
      | none => exact p2
      | some _ => exact u2.elim
    | some d' =>
      rw [hv] at u2
      cases o with
      | none => exact u2.elim
      | some _ => exact u2
/-- k in x, k not in x -/
def eInD (neg : Bool) (g : FE) (i : Nat) : FE := fun en => match g en with
  | some (z, en1) => match en1[i]? with
    | some (.dc t kvs) => match keyD t z with
      | some k => some (.bool (if neg then !(valD kvs k).isSome else (valD kvs k).isSome), en1)
      | none => none
    | _ => none
  | none => none
theorem RelO'.some_eq {H : Hp} {B : Addr → Prop} {o : Option D} {u : Option V} (r : RelO' H B o u) : o.isSome = u.isSome := by
  cases o <;> cases u <;> first | rfl | exact r.elim
theorem in_reads {i : Nat} {x : Str} {neg : Bool} (hN : X.N[i]? = some x) (σ : L2.St) (H : Hp) (Q : L2.VK) (h : tv P (eInD neg fb i) σ H Q) : tv P fb σ H fun y H1 => ∃ v : V, σ[i]? = some (some v) ∧ ∃ a o, v = .ref a ∧ DGet H1 a y o ∧ Q (.bl (if neg then !o.isSome else o.isSome)) H1 := by
  obtain ⟨Bf, ow, en, k, d, en', hf, q⟩ := h
  unfold eInD at hf
  split at hf <;> first | cases hf | skip
  rename_i z en1 h1
  split at hf <;> first | cases hf | skip
  rename_i t kvs h2
  split at hf <;> first | cases hf | skip
  rename_i kk hk
  refine ⟨Bf, ow, en, k, _, _, h1, fun v ow1 H1 k1 r1 p1 => ?_⟩
  obtain ⟨a, w1, w2, w3⟩ := k1.hdc i t kvs h2
  obtain ⟨o, u1, u2⟩ := w3.get p1 hk
  refine ⟨_, w2, a, o, rfl, u1, ?_⟩
  rw [← u2.some_eq]
  exact q _ ow1 H1 k1 r1 (.bl _)
theorem vt_inD {i : Nat} {x : Str} {p' : Pos} (hu : X.A.units + 64 < cLine) (hN : X.N[i]? = some x) (hv : Vis X.env.scope x := by first | exact .inl rfl | exact .inr (.inl rfl) | exact .inr (.inr rfl)) (hx : VE X P ix fb)
    (hd : (x == ("__debug__" : Str)) = false := by decide) (hcd : (x == ("__classdict__" : Str)) = false := by decide) : VT X P (.Compare ix [.In] [.Name x p'] pos) (fBool (eInD false fb i)) :=
  PT.weak (pt_cmp (pc_din (by omega) hx (pe_var hN hv hd hcd))) fun σ H Q h => by
    obtain ⟨Bf, ow, en, k, d, en', h1, q⟩ := in_reads hN σ H _ (tvT_bool σ H Q h)
    refine ⟨Bf, ow, en, k, d, en', h1, fun v ow1 H1 k1 r1 p1 => ?_⟩
    obtain ⟨v', g1, a, o, g2, g3, g4⟩ := q v ow1 H1 k1 r1 p1
    exact ⟨v', g1, a, o, g2, g3, g4⟩
theorem vt_notinD {i : Nat} {x : Str} {p' : Pos} (hu : X.A.units + 64 < cLine) (hN : X.N[i]? = some x) (hv : Vis X.env.scope x := by first | exact .inl rfl | exact .inr (.inl rfl) | exact .inr (.inr rfl)) (hx : VE X P ix fb)
    (hd : (x == ("__debug__" : Str)) = false := by decide) (hcd : (x == ("__classdict__" : Str)) = false := by decide) : VT X P (.Compare ix [.NotIn] [.Name x p'] pos) (fBool (eInD true fb i)) :=
  PT.weak (pt_cmp (pc_dnotin (by omega) hx (pe_var hN hv hd hcd))) fun σ H Q h => by
    obtain ⟨Bf, ow, en, k, d, en', h1, q⟩ := in_reads hN σ H _ (tvT_bool σ H Q h)
    refine ⟨Bf, ow, en, k, d, en', h1, fun v ow1 H1 k1 r1 p1 => ?_⟩
    obtain ⟨v', g1, a, o, g2, g3, g4⟩ := q v ow1 H1 k1 r1 p1
    exact ⟨v', g1, a, o, g2, g3, g4⟩
end
end VL

namespace VL
open PySem PySem.Spec
open PyProof.Rows L2

/-! ### is, is not: None, truth values -/
def gIsA : D → D → Option D
  | d, .none => some (.bool (isNone d))
  | .bool a, .bool b => some (.bool (decide (a = b)))
  | _, _ => none
def gIsNotA : D → D → Option D
  | d, .none => some (.bool (!isNone d))
  | .bool a, .bool b => some (.bool (!decide (a = b)))
  | _, _ => none
def rIsA : R2 := fun x y H Q => (y = .non ∧ Q (.bl (decide (x = .non))) H) ∨ rIsB x y H Q
def rIsNotA : R2 := fun x y H Q => (y = .non ∧ Q (.bl (!decide (x = .non))) H) ∨ rNotB x y H Q
theorem op_isA {X : Cx} : OpR X (compareOp .Is) rIsA := op_isN.or op_isBl
theorem op_isNotA {X : Cx} : OpR X (compareOp .IsNot) rIsNotA := op_notN.or op_notBl
theorem ov_isA : OpV rIsA gIsA := by
  intro H B d1 d2 d v1 v2 Q e p1 p2 nb q
  unfold gIsA at e
  split at e
  · cases e
    cases p2
    refine .inl ⟨rfl, q _ H .refl ?_⟩
    rw [p1.none_iff]
    exact .bl _
  · cases e
    cases p1
    cases p2
    exact .inr ⟨_, _, rfl, rfl, q _ H .refl (.bl _)⟩
  · cases e
theorem ov_isnotA : OpV rIsNotA gIsNotA := by
  intro H B d1 d2 d v1 v2 Q e p1 p2 nb q
  unfold gIsNotA at e
  split at e
  · cases e
    cases p2
    refine .inl ⟨rfl, q _ H .refl ?_⟩
    rw [p1.none_iff]
    exact .bl _
  · cases e
    cases p1
    cases p2
    exact .inr ⟨_, _, rfl, rfl, q _ H .refl (.bl _)⟩
  · cases e

/-! ### repr of numbers, truth values, None -/
def gRepr : List D → Option D
  | [.int i] => if i.natAbs.log2 < 1920 then some (.str (toString i)) else none
  | [.bool b] => some (.str (if b then "True" else "False"))
  | [.none] => some (.str "None")
  | _ => none
def rRepr : List V → Hp → L2.VK → Prop := fun xs H Q => (∃ i : Int, xs = [.int i] ∧ i.natAbs.log2 < 1920 ∧ Q (.str (toString i)) H) ∨ (∃ b, xs = [.bl b] ∧ Q (.str (if b then "True" else "False")) H) ∨ (xs = [.non] ∧ Q (.str "None") H)
theorem call_repr {X : Cx} : CallR X (.builtin "repr") rRepr := by
  intro pins s σ H xs us Q I r h
  rcases h with ⟨i, rfl, hz, q⟩ | ⟨b, rfl, q⟩ | ⟨rfl, q⟩
  · obtain ⟨u, rfl, t, rfl⟩ := vals1 r
    exact PySem.P.repr_of_int hz ⟨.str _, H, I.tok _, ⟨_, rfl⟩, q⟩
  · obtain ⟨u, rfl, rx⟩ := vals1 r
    cases rx
    exact PySem.P.repr_of_bool ⟨.str _, H, I.tok _, ⟨_, rfl⟩, q⟩
  · obtain ⟨u, rfl, rx⟩ := vals1 r
    cases rx
    exact PySem.P.repr_of_none ⟨.str _, H, I.tok _, ⟨_, rfl⟩, q⟩
theorem ca_repr : CaV rRepr gRepr := by
  intro H B ds d vs Q e r nb q
  unfold gRepr at e
  split at e
  · split at e <;> first | cases e | skip
    rename_i h
    cases r with
    | cons p r =>
      cases r
      cases p
      exact .inl ⟨_, rfl, h, q _ H .refl (.str _)⟩
  · cases e
    cases r with
    | cons p r =>
      cases r
      cases p
      exact .inr (.inl ⟨_, rfl, q _ H .refl (.str _)⟩)
  · cases e
    cases r with
    | cons p r =>
      cases r
      cases p
      exact .inr (.inr ⟨rfl, q _ H .refl (.str _)⟩)
  · cases e

/-! ### type(x) == T -/
section
variable {X : Cx} {P : Pl} {a b e : Expr} {es : List Expr} {fa fb : FE} {ga : FA} {pos apos cpos : Pos}
theorem tv_typ {T : String} {neg : Bool} (hT : T ∈ tyNames) (σ : L2.St) (H : Hp) (Q : L2.VK) (h : tv P (eTyp neg T fa) σ H Q) :
    tv P fa σ H fun v H1 => ∃ a, TyB X.K H1 v a ∧ a ∈ tyNames ∧ Q (.bl (if neg then !decide (a = T) else decide (a = T))) H1 := by
  obtain ⟨Bf, ow, en, k, d, en', hf, q⟩ := h
  unfold eTyp at hf
  split at hf <;> first | cases hf | skip
  rename_i d1 h1
  refine ⟨Bf, ow, en, k, d1, _, h1, fun v ow1 H1 k1 r1 p1 => ⟨typD d1, p1.tyb, typD_in _, ?_⟩⟩
  exact q _ ow1 H1 k1 r1 (.bl _)
theorem ve_typEq {T : String} {x : Str} {p1 p2 cpos : Pos} (hT : T ∈ tyNames) (hg : Gl X "type") (hm : X.mg "type" = none) (hgT : Gl X x) (hmT : X.mg x = none) (hbT : bootBuiltins x = some (.type T)) (he : VE X P e fa)
    (hnT : x ≠ "__name__" := by decide) (hdT : (x == ("__debug__" : Str)) = false := by decide) (hst : starEach [e] X.env = (false, eval e X.env) :: starEach [] X.env := by rfl) (hpl : (backTo cpos (starEach [] X.env)).any (·.1) = false := by rfl) :
    VE X P (.Compare (.Call (.Name "type" p1) [e] [] cpos) [.Eq] [.Name x p2] pos) (eTyp false T fa) :=
  PE.weak (pe_cmpR op_tyEq (pe_typ hg hm he hst hpl) (pe_bltn (v := .ty T) hgT hmT hbT rfl hnT hdT) (nomark _)) fun σ H Q h => by
    obtain ⟨Bf, ow, en, k, d, en', h1, q⟩ := tv_typ (X := X) hT σ H Q h
    exact ⟨Bf, ow, en, k, d, en', h1, fun v ow1 H1 k1 r1 p1 => by
      obtain ⟨a, g1, g2, g3⟩ := q v ow1 H1 k1 r1 p1
      exact ⟨v, a, rfl, g1, _, _, rfl, rfl, g2, hT, g3⟩⟩
theorem vt_typEq {T : String} {x : Str} {p1 p2 cpos : Pos} (hT : T ∈ tyNames) (hg : Gl X "type") (hm : X.mg "type" = none) (hgT : Gl X x) (hmT : X.mg x = none) (hbT : bootBuiltins x = some (.type T)) (he : VE X P e fa)
    (hnT : x ≠ "__name__" := by decide) (hdT : (x == ("__debug__" : Str)) = false := by decide) (hst : starEach [e] X.env = (false, eval e X.env) :: starEach [] X.env := by rfl) (hpl : (backTo cpos (starEach [] X.env)).any (·.1) = false := by rfl) :
    VT X P (.Compare (.Call (.Name "type" p1) [e] [] cpos) [.Eq] [.Name x p2] pos) (fBool (eTyp false T fa)) :=
  PT.weak (pt_cmpR op_tyEq (pe_typ hg hm he hst hpl) (pe_bltn (v := .ty T) hgT hmT hbT rfl hnT hdT) (nomark _)) fun σ H Q h => by
    obtain ⟨Bf, ow, en, k, d, en', h1, q⟩ := tv_typ (X := X) hT σ H _ (tvT_bool σ H Q h)
    exact ⟨Bf, ow, en, k, d, en', h1, fun v ow1 H1 k1 r1 p1 => by
      obtain ⟨a, g1, g2, g3⟩ := q v ow1 H1 k1 r1 p1
      exact ⟨v, a, rfl, g1, _, _, rfl, rfl, g2, hT, g3⟩⟩
theorem ve_typNe {T : String} {x : Str} {p1 p2 cpos : Pos} (hT : T ∈ tyNames) (hu : X.A.units + 64 < cLine) (hg : Gl X "type") (hm : X.mg "type" = none) (hgT : Gl X x) (hmT : X.mg x = none) (hbT : bootBuiltins x = some (.type T)) (he : VE X P e fa)
    (hnT : x ≠ "__name__" := by decide) (hdT : (x == ("__debug__" : Str)) = false := by decide) (hst : starEach [e] X.env = (false, eval e X.env) :: starEach [] X.env := by rfl) (hpl : (backTo cpos (starEach [] X.env)).any (·.1) = false := by rfl) :
    VE X P (.Compare (.Call (.Name "type" p1) [e] [] cpos) [.NotEq] [.Name x p2] pos) (eTyp true T fa) :=
  PE.weak (pe_cmpR (op_tyNe hu) (pe_typ hg hm he hst hpl) (pe_bltn (v := .ty T) hgT hmT hbT rfl hnT hdT) (nomark _)) fun σ H Q h => by
    obtain ⟨Bf, ow, en, k, d, en', h1, q⟩ := tv_typ (X := X) hT σ H Q h
    exact ⟨Bf, ow, en, k, d, en', h1, fun v ow1 H1 k1 r1 p1 => by
      obtain ⟨a, g1, g2, g3⟩ := q v ow1 H1 k1 r1 p1
      exact ⟨v, a, rfl, g1, _, _, rfl, rfl, g2, hT, g3⟩⟩
end

/-! ### sorted, of any data that are alike -/
/-- the order of data -/
def leD (x y : D) : Bool := PySem.W.dataLe false (fun d : D => d) x y
def sortD (ds : List D) : List D := ds.mergeSort leD
def geD (x y : D) : Bool := PySem.W.dataLe true (fun d : D => d) x y
def sortDR (ds : List D) : List D := ds.mergeSort geD
def headT : D → Bool
  | .tuple (_ :: _) => true
  | _ => false
def notT : D → Bool
  | .none => false
  | .tuple _ => false
  | .list _ => false
  | .dict _ => false
  | _ => true
def goodS (ds : List D) : Bool := decide (ds.length ≤ sizeLine) && (ds.all fun d => ds.all fun e => PySem.W.alike d e) && (ds.all headT || ds.all notT) && ds.all fun d => decide (d.depth ≤ 16)
theorem goodS_of {ds : List D} (h : goodS ds = true) : ds.length ≤ sizeLine ∧ PySem.W.AllAlike ds ∧ PySem.W.Sortable ds ∧ ∀ d ∈ ds, d.depth ≤ 16 := by
  unfold goodS at h
  simp only [Bool.and_eq_true, Bool.or_eq_true, decide_eq_true_eq, List.all_eq_true] at h
  obtain ⟨⟨⟨h1, h2⟩, h3⟩, h4⟩ := h
  refine ⟨h1, fun d hd d' hd' => h2 d hd d' hd', ?_, h4⟩
  rcases h3 with h3 | h3
  · refine .inl fun d hd => ?_
    have := h3 d hd
    unfold headT at this
    split at this
    · exact ⟨_, _, rfl⟩
    · cases this
  · refine .inr fun d hd => ?_
    have := h3 d hd
    refine ⟨fun z => ?_, fun xs z => ?_⟩ <;> (subst z; cases this)
/-- values that stand for data -/
def RvD (H : Hp) (B : Addr → Prop) (u : Value) (d : D) : Prop := ∃ x : V, RelV x u ∧ Rp H B d x
theorem each_in {H : Hp} {B : Addr → Prop} : ∀ {ds : List D} {xs : List V} {us : List Value}, RpL H B ds xs → Vals xs us → PySem.W.EachIs (RvD H B) us ds
  | [], _, _, .nil, .nil => .nil
  | _ :: _, _, _, .cons r rs, .cons h t => .cons ⟨_, h, r⟩ (each_in rs t)
theorem each_out {H : Hp} {B : Addr → Prop} : ∀ {ds : List D} {us : List Value}, PySem.W.EachIs (RvD H B) us ds → ∃ xs, RpL H B ds xs ∧ Vals xs us
  | [], _, .nil => ⟨[], .nil, .nil⟩
  | _ :: _, _, .cons ⟨x, h, r⟩ t => by
    obtain ⟨xs, h1, h2⟩ := each_out t
    exact ⟨x :: xs, .cons r h1, .cons h h2⟩
theorem each_reads {X : Cx} {pins : List (Addr × Obj)} {σ : L2.St} {H : Hp} {s : Shared} {B : Addr → Prop} (I : Inv X pins σ H s) : ∀ {ds : List D} {us : List Value}, PySem.W.EachIs (RvD H B) us ds → PySem.W.EachIs (fun v b => ∃ as, Reads s.heap v ((fun d : D => d) b) as) us ds
  | [], _, .nil => .nil
  | _ :: _, _, .cons ⟨x, h, r⟩ t => .cons (Dp.reads I _ x _ r.dp h) (each_reads I t)
def rSortedD : List V → Hp → L2.VK → Prop := fun vs H Q => ∃ B ds, RpL H B [.list ds] vs ∧ goodS ds = true ∧ ∀ p xs, H p = none → RpL H B (sortD ds) xs → Q (.ref p) (upd H p (.lst xs))
theorem cr_sortedD {X : Cx} (hu : X.A.units + 64 < cLine) : CallR X (.builtin "sorted") rSortedD := by
  intro pins s σ H vs us Q I r h
  obtain ⟨B, ds, rp, hg, q⟩ := h
  obtain ⟨hl, hal, hk, hd⟩ := goodS_of hg
  cases rp with
  | cons p rp =>
    cases rp
    cases p with
    | lst nb rd rs =>
      rename_i a xs
      obtain ⟨its, rv, pl, hz⟩ := I.list (.inl rd)
      rw [Vals.ref1 r]
      have e := each_in rs rv
      refine PySem.W.sorted_data (R := RvD H B) (enc := fun d : D => d) (bs := ds) pl.isList e (each_reads I e) (by rw [List.map_id']; exact hal) (by rw [List.map_id']; exact hk) hl (fun b hb => by have := hd b hb; show X.A.units + 2 + b.depth < cLine; omega) fun out ho hout => ?_
      obtain ⟨ys, h1, h2⟩ := each_out hout
      obtain ⟨ep, he'⟩ := PyProof.Rows.sortedAll_at s.heap its out.toArray
      have hlen : ys.length ≤ sizeLine := by
        rw [h2.length, ho]
        exact hl
      exact ⟨.ref _, upd H (s.heap.objs.size + 1) (.lst ys), I.laid (t' := s.toks) (fun _ _ => PyProof.Rows.sortedAll_old) (Nat.le_succ _) ⟨hlen, out, ep, h2, he'⟩, rfl, q _ _ (I.hok.fresh (Nat.le_succ _)) h1⟩
/-- sorted: ints and pairs by their own sorts, all else by the order of data -/
def gSortA : List D → Option (List D)
  | [.list ds] => match gSorted [.list ds] with
    | some r => some r
    | none => if goodS ds = true then some (sortD ds) else none
  | _ => none
theorem ca_sortA {K : PySem.W.Frag} : CaL (fun vs H Q => rSortedAll K vs H Q ∨ rSortedD vs H Q) gSortA := by
  intro H B ds es vs Q e r q
  unfold gSortA at e
  split at e <;> first | cases e | skip
  rename_i xs
  split at e
  · rename_i r' h
    cases e
    exact .inl (ca_sorted H B _ _ vs Q h r q)
  · split at e <;> first | cases e | skip
    rename_i hg
    exact .inr ⟨B, xs, r, hg, q⟩
theorem cr_sortA {X : Cx} (hu : X.A.units + 64 < cLine) : CallR X (.builtin "sorted") (fun vs H Q => rSortedAll X.K vs H Q ∨ rSortedD vs H Q) := by
  intro pins s σ H xs us Q I r h
  rcases h with h | h
  · exact cr_sortedAll pins s σ H xs us Q I r h
  · exact cr_sortedD hu pins s σ H xs us Q I r h

/-! ### sorted(d): the keys of a dict, numbers -/
theorem ints_keys : ∀ {us : List Value} {ns : List Int}, us.length = ns.length → (∀ (j : Nat) (v : Value), us[j]? = some v → ∃ (x : Int) (t : Tok), ns[j]? = some x ∧ v = Value.int x t) → IntsAre us ns
  | [], [], _, _ => .nil
  | u :: us, k :: ks, hl, h => by
    obtain ⟨x, t, e1, e2⟩ := h 0 u rfl
    have e1' : k = x := Option.some.inj e1
    subst e1'
    subst e2
    exact .cons _ _ (ints_keys (by simpa using hl) fun j v e => by
      obtain ⟨x, t, a, b⟩ := h (j + 1) v (by simpa using e)
      exact ⟨x, t, by simpa using a, b⟩)
  | [], _ :: _, hl, _ => by simp at hl
  | _ :: _, [], hl, _ => by simp at hl
def rSortedDK : List V → Hp → L2.VK → Prop := fun xs H Q => ∃ (a : Addr) (kvs : List (Key × V)) (ns : List Int), xs = [.ref a] ∧ H a = some (.dK kvs) ∧ kvs.map (·.1) = ns.map Sum.inl ∧ ∀ p, H p = none → Q (.ref p) (upd H p (.lst ((sortI ns).map V.int)))
theorem cr_sortedDK {X : Cx} (hcalm : X.calm = true) : CallR X (.builtin "sorted") rSortedDK := by
  intro pins s σ H xs us Q I r q
  obtain ⟨a, kvs, ns, ex, hd, hks, q⟩ := q
  subst ex
  obtain ⟨u, eu, rx⟩ := vals1 r
  subst eu
  cases rx
  obtain ⟨z, lo, vs, rel, dd⟩ := dk_rd I.hok (.inl hd)
  obtain ⟨ep, hat⟩ := dd.dictAt
  have hkeys : vs.map (·.1) = ns.map Sum.inl := rel.keys.symm.trans hks
  have hl : vs.length = ns.length := by
    have e := congrArg List.length hkeys
    rw [List.length_map, List.length_map] at e
    exact e
  have h16 : vs.length ≤ sizeLine := by rw [← rel.length]; exact z
  refine Calls.call_function_entry PyProof.Rows.kind_sorted PyProof.Rows.plain_sorted PyProof.Rows.entry_sorted (PyProof.Rows.args_sorted1 _) ?_
  unfold Builtin.«sorted»
  refine wpAny_bind (m := checkCount "sorted" 1 1 _) (wpAny_pure ?_)
  refine wpAny_bind (PySem.W.kdu_collect (A := X.A.in1) (PySem.W.kdl_dict (knd := mixKind X.prog X.w) (kvs := vs) (ep := ep) lo) (I.ok.hd hcalm) hat h16 fun h' tk acc hk hacc => ?_)
  have hal : acc.toList.length = ns.length := by rw [Array.length_toList, hacc.1, hl]
  have hS : IntsAre acc.toList ns := ints_keys hal fun j v e => by
    obtain ⟨k, x, e1, e2⟩ := hacc.2 j v (by rw [← Array.getElem?_toList]; exact e)
    have e3 : (vs.map (·.1))[j]? = some k := by rw [List.getElem?_map, e1]; all_goals rfl
    rw [hkeys, List.getElem?_map] at e3
    cases e4 : ns[j]? with
    | none => rw [e4] at e3; cases e3
    | some y =>
      rw [e4] at e3
      have e5 : Sum.inl y = k := Option.some.inj e3
      subst e5
      have e6 : keyIs (Sum.inl y) v = true := e2
      rcases keyIs_shape e6 with ⟨i, t, ek, ev⟩ | ⟨z, t, ek, ev⟩
      · cases ek
        exact ⟨_, t, rfl, ev⟩
      · cases ek
  have I1 : Inv X pins σ H { s with heap := h', toks := tk } := I.kept hk
  refine wpAny_bind (wpAny_newList ?_ (by rw [hal, ← hl]; exact h16))
  have hoL : (h'.push (seqObj "list" acc.toList.toArray 0)).get? h'.objs.size = some (seqObj "list" acc.toList.toArray 0) := Heap.get?_push_size _ rfl
  show wpAny _ _ _ _ _ { s with heap := h'.push (seqObj "list" acc.toList.toArray 0), toks := tk }
  refine wpAny_bind (wpAny_holding (wpAny_call_entry PyProof.Rows.slot_list_sort ⟨_, hoL, rfl⟩ PyProof.Rows.entry_list_sort
    (SrtO.list_sort_ord SrtO.swo_int (s := { s with heap := h'.push (seqObj "list" acc.toList.toArray 0), toks := tk }) hoL (by rw [hal, ← hl]; exact h16) (fun h2 => SrtO.ints_sortable hS h2) fun out h1 h2 => ⟨_, rfl, ?_⟩)
    (PyProof.Rows.args_list_sort _)))
  obtain ⟨k1, k2, k3⟩ := SrtO.ints_out hS h1 h2
  have := sortI_eq k2 k3
  obtain ⟨e', he'⟩ := PyProof.Rows.sortedHeap_at (vs := acc.toList) (out := out.toArray) hoL
  have hlen : ((sortI ns).map V.int).length ≤ sizeLine := by
    rw [List.length_map, (sortI_perm ns).length_eq, ← hl]
    exact h16
  rw [this] at k1
  refine wpAny_pure ⟨_, rfl, .ref h'.objs.size, upd H h'.objs.size (.lst ((sortI ns).map V.int)), I1.laid (t' := tk) (fun b u e => ?_) (Nat.le_refl _)
    (show ObjOk X.prog X.w _ _ _ (.lst ((sortI ns).map V.int)) from ⟨hlen, out, e', vals_of_ints k1, he'⟩), rfl, q _ (I1.hok.fresh (Nat.le_refl _))⟩
  have hb : b < h'.objs.size := Heap.lt_size e
  rw [PyProof.Rows.sortedHeap_old (Nat.ne_of_lt hb) (by rw [size_push']; exact Nat.lt_succ_of_lt hb)]
  exact Heap.get?_push_of_some _ e
def intKeys : DKV → Option (List Int)
  | [] => some []
  | ([.inl n], _) :: r => (intKeys r).map (n :: ·)
  | _ => none
def lSortedDK (i : Nat) : FL := fun en => match en[i]? with
  | some (.dc false kvs) => match intKeys kvs with
    | some ns => some ((sortI ns).map .int, en)
    | none => none
  | _ => none
theorem intKeys_of {H : Hp} {B : Addr → Prop} : ∀ {kvs : DKV} {ks : List (Key × V)} {ns : List Int}, Paired (fun (p : List Key × D) (q : Key × V) => p.1 = [q.1] ∧ Rp H B p.2 q.2) kvs ks → intKeys kvs = some ns → ks.map (·.1) = ns.map Sum.inl
  | _, _, _, .nil, e => by cases e; rfl
  | _, _, ns, .cons (a := p) (b := q) r rs, e => by
    obtain ⟨p1, p2⟩ := p
    have e1 : p1 = [q.1] := r.1
    subst e1
    cases hq : q.1 with
    | inr y => rw [hq] at e; simp [intKeys] at e
    | inl n =>
      rw [hq] at e
      simp only [intKeys] at e
      cases h2 : intKeys _ with
      | none => rw [h2] at e; cases e
      | some ms =>
        rw [h2] at e
        cases e
        rw [List.map_cons, List.map_cons, hq, intKeys_of rs h2]
section
variable {X : Cx} {P : Pl}
theorem vf_sortedDK {i : Nat} {x : Str} {p p' pos : Pos} (hc : X.calm = true) (hN : X.N[i]? = some x) (hv : Vis X.env.scope x := by first | exact .inl rfl | exact .inr (.inl rfl) | exact .inr (.inr rfl)) (hg : Gl X "sorted") (hm : X.mg "sorted" = none)
    (hd : (x == ("__debug__" : Str)) = false := by decide) (hcd : (x == ("__classdict__" : Str)) = false := by decide)
    (hst : starEach [.Name x p'] X.env = (false, eval (.Name x p') X.env) :: starEach [] X.env := by rfl) (hpl : (backTo pos (starEach [] X.env)).any (·.1) = false := by rfl) : VF X P (.Call (.Name "sorted" p) [.Name x p'] [] pos) (lSortedDK i) :=
  PE.weak (pe_callB (cr_sortedDK hc) hg hm (by decide +kernel) (pa_cons (pe_var hN hv hd hcd) pa_nil hst) (by decide) (by decide) hst hpl) fun σ H Q h => by
    obtain ⟨Bf, ow, en, k, d, en', hf, q⟩ := h
    unfold lSortedDK at hf
    split at hf <;> first | cases hf | skip
    rename_i kvs e0
    split at hf <;> first | cases hf | skip
    rename_i ns e1
    obtain ⟨a, g1, g2, g3⟩ := k.hdc i false kvs e0
    obtain ⟨ks, g4, g5⟩ := g3
    exact ⟨_, g2, a, ks, ns, rfl, g4, intKeys_of g5 e1, fun p hp => fresh_of (f := Q) k .refl hp (RpL.ofInts _) q⟩
end
end VL

namespace VL
open PySem PySem.Spec
open PyProof.Rows L2
/-! ### the data functions, gone through from the front: what holds behind each -/
def O1 {α : Type} (x : Option α) (Q : α → Prop) : Prop := ∃ a, x = some a ∧ Q a
def O2 {α β : Type} (x : Option (α × β)) (Q : α → β → Prop) : Prop := ∃ a b, x = some (a, b) ∧ Q a b
theorem O1.mono {α : Type} {x : Option α} {Q Q' : α → Prop} (h : O1 x Q) (w : ∀ a, Q a → Q' a) : O1 x Q' := let ⟨a, e, q⟩ := h; ⟨a, e, w a q⟩
theorem O2.mono {α β : Type} {x : Option (α × β)} {Q Q' : α → β → Prop} (h : O2 x Q) (w : ∀ a b, Q a b → Q' a b) : O2 x Q' := let ⟨a, b, e, q⟩ := h; ⟨a, b, e, w a b q⟩
theorem O1.of {α : Type} {x : Option α} {a : α} {Q : α → Prop} (e : x = some a) (q : Q a) : O1 x Q := ⟨a, e, q⟩
theorem O2.of {α β : Type} {x : Option (α × β)} {a : α} {b : β} {Q : α → β → Prop} (e : x = some (a, b)) (q : Q a b) : O2 x Q := ⟨a, b, e, q⟩
section
variable {P P' : List Nat} {i n m : Nat} {en : En} {f fa fb fc : FE} {g ga : FA} {t u : FT} {s s' : FS} {l : FL} {gm : FM} {Q : D → En → Prop} {QB : Bool → En → Prop} {QL : List D → En → Prop} {QM : List Md → En → Prop} {QO : Out → Prop} {QE : En → Prop}
theorem w_var {d : D} (e : en[i]? = some (.va d)) (q : Q d en) : O2 (eVar P i en) Q := ⟨_, _, by unfold eVar; rw [e], q⟩
theorem w_varN {d : D} (e : en[i]? = some (.vn d)) (q : Q d en) : O2 (eVar P i en) Q := ⟨_, _, by unfold eVar; rw [e], q⟩
theorem w_varO {ds : List D} (e : en[i]? = some (.ow ds)) (hi : i ∉ P) (q : Q (.list ds) (en.set i (.va (.list ds)))) : O2 (eVar P i en) Q := ⟨_, _, by unfold eVar; rw [e]; exact if_neg hi, q⟩
theorem w_c {d : D} (q : Q d en) : O2 (eC d en) Q := ⟨_, _, rfl, q⟩
theorem w_op {g : D → D → Option D} (h : O2 (fa en) fun x en1 => O2 (fb en1) fun y en2 => O1 (g x y) fun z => Q z en2) : O2 (eOp g fa fb en) Q := by
  obtain ⟨x, en1, h1, y, en2, h2, z, h3, q⟩ := h
  exact ⟨z, en2, by simp only [eOp, h1, h2, h3], q⟩
theorem w_tru (h : O2 (f en) fun d en1 => O1 (truD d) fun b => QB b en1) : O2 (fTru f en) QB := by
  obtain ⟨x, en1, h1, z, h3, q⟩ := h
  exact ⟨z, en1, by simp only [fTru, h1, h3], q⟩
theorem w_bool (h : O2 (f en) fun d en1 => ∃ b, d = .bool b ∧ QB b en1) : O2 (fBool f en) QB := by
  obtain ⟨x, en1, h1, z, rfl, q⟩ := h
  exact ⟨z, en1, by simp only [fBool, h1], q⟩
theorem w_not (h : O2 (t en) fun b en1 => QB (!b) en1) : O2 (fNot t en) QB := by
  obtain ⟨x, en1, h1, q⟩ := h
  exact ⟨_, en1, by simp only [fNot, h1], q⟩
theorem w_and (h : O2 (t en) fun b en1 => (b = true → O2 (u en1) QB) ∧ (b = false → QB false en1)) : O2 (fAnd t u en) QB := by
  obtain ⟨b, en1, h1, q1, q2⟩ := h
  cases b with
  | true =>
    obtain ⟨c, en2, h2, q⟩ := q1 rfl
    exact ⟨c, en2, by simp only [fAnd, h1, h2], q⟩
  | false => exact ⟨_, en1, by simp only [fAnd, h1], q2 rfl⟩
theorem w_or (h : O2 (t en) fun b en1 => (b = true → QB true en1) ∧ (b = false → O2 (u en1) QB)) : O2 (fOr t u en) QB := by
  obtain ⟨b, en1, h1, q1, q2⟩ := h
  cases b with
  | false =>
    obtain ⟨c, en2, h2, q⟩ := q2 rfl
    exact ⟨c, en2, by simp only [fOr, h1, h2], q⟩
  | true => exact ⟨_, en1, by simp only [fOr, h1], q1 rfl⟩
theorem w_yes (q : QB true en) : O2 (tYesV en) QB := ⟨_, _, rfl, q⟩
theorem w_eand (h : O2 (fa en) fun d en1 => ∃ b, d = .bool b ∧ (b = true → O2 (fb en1) Q) ∧ (b = false → Q (.bool false) en1)) : O2 (eAnd fa fb en) Q := by
  obtain ⟨d, en1, h1, b, rfl, q1, q2⟩ := h
  cases b with
  | true =>
    obtain ⟨c, en2, h2, q⟩ := q1 rfl
    exact ⟨c, en2, by simp only [eAnd, h1, h2], q⟩
  | false => exact ⟨_, en1, by simp only [eAnd, h1], q2 rfl⟩
theorem w_eor (h : O2 (fa en) fun d en1 => ∃ b, d = .bool b ∧ (b = true → Q (.bool true) en1) ∧ (b = false → O2 (fb en1) Q)) : O2 (eOr fa fb en) Q := by
  obtain ⟨d, en1, h1, b, rfl, q1, q2⟩ := h
  cases b with
  | false =>
    obtain ⟨c, en2, h2, q⟩ := q2 rfl
    exact ⟨c, en2, by simp only [eOr, h1, h2], q⟩
  | true => exact ⟨_, en1, by simp only [eOr, h1], q1 rfl⟩
theorem w_enot (h : O2 (f en) fun d en1 => ∃ b, d = .bool b ∧ Q (.bool (!b)) en1) : O2 (eNot f en) Q := by
  obtain ⟨d, en1, h1, b, rfl, q⟩ := h
  exact ⟨_, en1, by simp only [eNot, h1], q⟩
theorem w_eneg (h : O2 (f en) fun d en1 => ∃ b, d = .int b ∧ Q (.int (-b)) en1) : O2 (eNeg f en) Q := by
  obtain ⟨d, en1, h1, b, rfl, q⟩ := h
  exact ⟨_, en1, by simp only [eNeg, h1], q⟩
theorem w_eif (h : O2 (t en) fun b en1 => (b = true → O2 (fa en1) Q) ∧ (b = false → O2 (fb en1) Q)) : O2 (eIf t fa fb en) Q := by
  obtain ⟨b, en1, h1, q1, q2⟩ := h
  cases b with
  | true =>
    obtain ⟨c, en2, h2, q⟩ := q1 rfl
    exact ⟨c, en2, by simp only [eIf, h1, h2], q⟩
  | false =>
    obtain ⟨c, en2, h2, q⟩ := q2 rfl
    exact ⟨c, en2, by simp only [eIf, h1, h2], q⟩
theorem w_chain {g g' : D → D → Option D} (h : O2 (fa en) fun x en1 => O2 (fb en1) fun y en2 => O1 (g x y) fun z => ∃ b, z = .bool b ∧ (b = true → O2 (fc en2) fun w en3 => O1 (g' y w) fun u => Q u en3) ∧ (b = false → Q (.bool false) en2)) : O2 (eChain g g' fa fb fc en) Q := by
  obtain ⟨x, en1, h1, y, en2, h2, z, h3, b, rfl, q1, q2⟩ := h
  cases b with
  | true =>
    obtain ⟨w, en3, h4, u, h5, q⟩ := q1 rfl
    exact ⟨u, en3, by simp only [eChain, h1, h2, h3, h4, h5], q⟩
  | false => exact ⟨_, _, by simp only [eChain, h1, h2, h3], q2 rfl⟩
theorem w_anil (q : QL [] en) : O2 (aNil en) QL := ⟨_, _, rfl, q⟩
theorem w_acons (h : O2 (f en) fun d en1 => O2 (g en1) fun ds en2 => QL (d :: ds) en2) : O2 (aCons f g en) QL := by
  obtain ⟨d, en1, h1, ds, en2, h2, q⟩ := h
  exact ⟨_, en2, by simp only [aCons, h1, h2], q⟩
theorem w_tup (h : O2 (g en) fun ds en1 => ds.length ≤ sizeLine ∧ Q (.tuple ds) en1) : O2 (eTup g en) Q := by
  obtain ⟨ds, en1, h1, h2, q⟩ := h
  exact ⟨_, en1, by simp only [eTup, h1, h2, if_true], q⟩
theorem w_elst (h : O2 (g en) fun ds en1 => ds.length ≤ sizeLine ∧ Q (.list ds) en1) : O2 (eLst g en) Q := by
  obtain ⟨ds, en1, h1, h2, q⟩ := h
  exact ⟨_, en1, by simp only [eLst, h1, h2, if_true], q⟩
theorem w_llst (h : O2 (g en) fun ds en1 => ds.length ≤ sizeLine ∧ QL ds en1) : O2 (lLst g en) QL := by
  obtain ⟨ds, en1, h1, h2, q⟩ := h
  exact ⟨_, en1, by simp only [lLst, h1, h2, if_true], q⟩
theorem w_call {k : List D → Option D} (h : O2 (g en) fun ds en1 => O1 (k ds) fun d => Q d en1) : O2 (eCall k g en) Q := by
  obtain ⟨ds, en1, h1, d, h2, q⟩ := h
  exact ⟨_, en1, by simp only [eCall, h1, h2], q⟩
theorem w_lcall {k : List D → Option (List D)} (h : O2 (g en) fun ds en1 => O1 (k ds) fun d => QL d en1) : O2 (lCall k g en) QL := by
  obtain ⟨ds, en1, h1, d, h2, q⟩ := h
  exact ⟨_, en1, by simp only [lCall, h1, h2], q⟩
theorem w_new (h : O2 (l en) fun ds en1 => Q (.list ds) en1) : O2 (eNew l en) Q := by
  obtain ⟨ds, en1, h1, q⟩ := h
  exact ⟨_, en1, by simp only [eNew, h1], q⟩
theorem w_nil (q : QO (.nx en)) : O1 (sNil en) QO := ⟨_, rfl, q⟩
def thenQ (s : FS) (QO : Out → Prop) : Out → Prop
  | .nx en => O1 (s en) QO
  | o => QO o
theorem thenQ_nx (h : O1 (s en) QO) : thenQ s QO (.nx en) := h
theorem thenQ_rt {d : D} (h : QO (.rt d en)) : thenQ s QO (.rt d en) := h
theorem thenQ_rf {d : List D} (h : QO (.rf d en)) : thenQ s QO (.rf d en) := h
theorem w_seq (h : O1 (s en) (thenQ s' QO)) : O1 (sSeq s s' en) QO := by
  obtain ⟨o, h1, q⟩ := h
  cases o with
  | nx en1 =>
    obtain ⟨o, h2, q⟩ := q
    exact ⟨o, by simp only [sSeq, h1, h2], q⟩
  | _ => exact ⟨_, by simp only [sSeq, h1], q⟩
theorem w_drop (h : O2 (f en) fun _ en1 => QO (.nx en1)) : O1 (sDrop f en) QO := by
  obtain ⟨d, en1, h1, q⟩ := h
  exact ⟨_, by simp only [sDrop, h1], q⟩
theorem w_ret (h : O2 (f en) fun d en1 => QO (.rt d en1)) : O1 (sRet f en) QO := by
  obtain ⟨d, en1, h1, q⟩ := h
  exact ⟨_, by simp only [sRet, h1], q⟩
theorem w_retN (q : QO (.rt .none en)) : O1 (sRetN en) QO := ⟨_, rfl, q⟩
theorem w_retF (h : O2 (l en) fun ds en1 => QO (.rf ds en1)) : O1 (sRetF l en) QO := by
  obtain ⟨d, en1, h1, q⟩ := h
  exact ⟨_, by simp only [sRetF, h1], q⟩
theorem w_retO {ds : List D} (e : en[i]? = some (.ow ds)) (hi : i ∉ P) (q : QO (.rf ds (en.set i .un))) : O1 (sRetO P i en) QO := ⟨_, by unfold sRetO; rw [e]; exact if_neg hi, q⟩
theorem w_if (h : O2 (t en) fun b en1 => (b = true → O1 (s en1) QO) ∧ (b = false → O1 (s' en1) QO)) : O1 (sIf t s s' en) QO := by
  obtain ⟨b, en1, h1, q1, q2⟩ := h
  cases b with
  | true =>
    obtain ⟨o, h2, q⟩ := q1 rfl
    exact ⟨o, by simp only [sIf, h1, h2], q⟩
  | false =>
    obtain ⟨o, h2, q⟩ := q2 rfl
    exact ⟨o, by simp only [sIf, h1, h2], q⟩
theorem w_set (h : O2 (f en) fun d en1 => QO (.nx (en1.set i (.va d)))) : O1 (sSet i f en) QO := by
  obtain ⟨d, en1, h1, q⟩ := h
  exact ⟨_, by simp only [sSet, h1], q⟩
theorem w_setN (h : O2 (f en) fun d en1 => QO (.nx (en1.set i (.vn d)))) : O1 (sSetN i f en) QO := by
  obtain ⟨d, en1, h1, q⟩ := h
  exact ⟨_, by simp only [sSetN, h1], q⟩
theorem w_own (h : O2 (l en) fun ds en1 => i < en1.length ∧ QO (.nx (en1.set i (.ow ds)))) : O1 (sOwn i l en) QO := by
  obtain ⟨d, en1, h1, h2, q⟩ := h
  exact ⟨_, by simp only [sOwn, h1, h2, if_true], q⟩
theorem w_asg {k : FG} (h : O2 (f en) fun d en1 => O1 (k d en1) fun en2 => QO (.nx en2)) : O1 (sAsg f k en) QO := by
  obtain ⟨d, en1, h1, en2, h2, q⟩ := h
  exact ⟨_, by simp only [sAsg, h1, h2], q⟩
theorem w_gnm {d : D} (q : QE (en.set i (.va d))) : O1 (gNm i d en) QE := ⟨_, rfl, q⟩
theorem w_gtp {k : FGs} {ds : List D} (hl : ds.length = n) (h : O1 (k ds en) QE) : O1 (gTp n k (.tuple ds) en) QE := by
  obtain ⟨en1, h1, q⟩ := h
  exact ⟨_, by simp only [gTp, hl, if_true, h1], q⟩
theorem w_gsnil (q : QE en) : O1 (gsNil [] en) QE := ⟨_, rfl, q⟩
theorem w_gscons {k : FG} {r : FGs} {d : D} {ds : List D} (h : O1 (k d en) fun en1 => O1 (r ds en1) QE) : O1 (gsCons k r (d :: ds) en) QE := by
  obtain ⟨en1, h1, en2, h2, q⟩ := h
  exact ⟨_, by simp only [gsCons, h1, h2], q⟩
theorem w_app (e : isOw en[i]? = true) (h : O2 (f en) fun d en1 => ∃ ds, en1[i]? = some (.ow ds) ∧ ds.length < sizeLine ∧ QO (.nx (en1.set i (.ow (ds ++ [d]))))) : O1 (sApp i f en) QO := by
  obtain ⟨d, en1, h1, ds, h2, h3, q⟩ := h
  exact ⟨_, by simp only [sApp, e, h1, h2, h3, if_true], q⟩
theorem w_put (h : O2 (fa en) fun d en1 => isOw en1[i]? = true ∧ O2 (fb en1) fun x en2 => ∃ z ds j, x = .int z ∧ en2[i]? = some (.ow ds) ∧ ixN ds.length z = some j ∧ QO (.nx (en2.set i (.ow (ds.set j d))))) : O1 (sPut i fa fb en) QO := by
  obtain ⟨d, en1, h1, h2, x, en2, h3, z, ds, j, rfl, h4, h5, q⟩ := h
  exact ⟨_, by simp only [sPut, h1, h2, h3, h4, h5, if_true], q⟩
theorem w_get (e : isOw en[i]? = true) (h : O2 (f en) fun x en1 => ∃ z ds d, x = .int z ∧ en1[i]? = some (.ow ds) ∧ atI ds z = some d ∧ Q d en1) : O2 (eGet i f en) Q := by
  obtain ⟨x, en1, h1, z, ds, d, rfl, h2, h3, q⟩ := h
  exact ⟨_, _, by simp only [eGet, e, h1, h2, h3, if_true], q⟩
theorem w_getV {d : D} (e : en[i]? = some (.va d)) (h : O2 (f en) fun z en1 => O1 (gIx d z) fun r => Q r en1) : O2 (eGet i f en) Q := by
  obtain ⟨z, en1, h1, r, h2, q⟩ := h
  exact ⟨_, _, by simp only [eGet, isOw, e, eOp, eVarV, h1, h2]; rfl, q⟩
theorem w_lenO {ds : List D} (e : en[i]? = some (.ow ds)) (q : Q (.int ds.length) en) : O2 (eLenO i en) Q := ⟨_, _, by simp only [eLenO, e], q⟩
theorem w_mnil (q : QM [] en) : O2 (mNil en) QM := ⟨_, _, rfl, q⟩
theorem w_mcons (h : O2 (f en) fun d en1 => O2 (gm en1) fun ms en2 => QM (.v d :: ms) en2) : O2 (mCons f gm en) QM := by
  obtain ⟨d, en1, h1, ds, en2, h2, q⟩ := h
  exact ⟨_, en2, by simp only [mCons, h1, h2], q⟩
theorem w_mown (e : isOwnO en[i]? = true) (h : O2 (gm en) fun ms en1 => isOwnO en1[i]? = true ∧ QM (.o i :: ms) en1) : O2 (mOwn i gm en) QM := by
  obtain ⟨ds, en2, h2, h3, q⟩ := h
  exact ⟨_, en2, by simp only [mOwn, e, h2, h3, if_true], q⟩
theorem w_mlend (e : isOw en[i]? = true) (h : O2 (gm en) fun ms en1 => isOw en1[i]? = true ∧ QM (.b i :: ms) en1) : O2 (mLend i gm en) QM := by
  obtain ⟨ds, en2, h2, h3, q⟩ := h
  exact ⟨_, en2, by simp only [mLend, e, h2, h3, if_true], q⟩
theorem w_perm {π : List Nat} (h : O2 (gm en) fun ms en1 => ms.length = m ∧ QM (permL π ms) en1) : O2 (mPerm m π gm en) QM := by
  obtain ⟨ds, en2, h2, h3, q⟩ := h
  exact ⟨_, en2, by simp only [mPerm, h2, h3, if_true], q⟩
theorem w_callF {F : FF} (h : O2 (gm en) fun ms en1 => (handOk P' ms = true ∧ noB ms = true ∧ ms.length = n) ∧ O2 (F (ms.map (mdSl en1))) fun d as' => Q d (putBack ms 0 as' en1)) : O2 (eCallF P' n F gm en) Q := by
  obtain ⟨ms, en1, h1, h2, d, as', h3, q⟩ := h
  exact ⟨_, _, by simp only [eCallF, h1, h2, h3, and_self, if_true], q⟩
theorem w_lcallF {F : FFL} (h : O2 (gm en) fun ms en1 => (handOk P' ms = true ∧ noB ms = true ∧ ms.length = n) ∧ O2 (F (ms.map (mdSl en1))) fun d as' => QL d (putBack ms 0 as' en1)) : O2 (lCallF P' n F gm en) QL := by
  obtain ⟨ms, en1, h1, h2, d, as', h3, q⟩ := h
  exact ⟨_, _, by simp only [lCallF, h1, h2, h3, and_self, if_true], q⟩
theorem w_callB {F : FF} (h : O2 (gm en) fun ms en1 => (noO ms = true ∧ ms.length = n) ∧ O2 (F (ms.map (mdSl en1))) fun d _ => flatD d = true ∧ Q d en1) : O2 (eCallB n F gm en) Q := by
  obtain ⟨ms, en1, h1, h2, d, as', h3, h4, q⟩ := h
  exact ⟨_, _, by simp only [eCallB, h1, h2, h3, h4, and_self, if_true], q⟩
theorem w_callU {F : FF} (h : O2 (g en) fun ds en1 => ds.length = n ∧ O2 (F (ds.map Sl.va)) fun d _ => flatD d = true ∧ Q d en1) : O2 (eCallU n F g en) Q := by
  obtain ⟨ms, en1, h1, h2, d, as', h3, h4, q⟩ := h
  exact ⟨_, _, by simp only [eCallU, h1, h2, h3, h4, if_true], q⟩
def itD : D → Option (List D)
  | .list ds => some ds
  | .tuple ds => some ds
  | _ => none
theorem w_items (h : O2 (f en) fun d en1 => O1 (itD d) fun ds => QL ds en1) : O2 (iItems f en) QL := by
  obtain ⟨d, en1, h1, ds, h2, q⟩ := h
  refine ⟨ds, en1, ?_, q⟩
  cases d <;> first | (cases h2; simp only [iItems, h1]) | cases h2
theorem w_range1 (h : O2 (g en) fun ds en1 => ∃ j, ds = [.int j] ∧ (-(2 ^ 62) ≤ j ∧ j < 2 ^ 62) ∧ QL (rangeD 0 j.toNat) en1) : O2 (iRange1 g en) QL := by
  obtain ⟨ds, en1, h1, j, rfl, h2, q⟩ := h
  exact ⟨_, _, by simp only [iRange1, h1, h2, and_self, if_true], q⟩
theorem w_range2 (h : O2 (g en) fun ds en1 => ∃ i j, ds = [.int i, .int j] ∧ (-(2 ^ 62) ≤ i ∧ i < 2 ^ 62 ∧ -(2 ^ 62) ≤ j ∧ j < 2 ^ 62) ∧ QL (rangeD i (j - i).toNat) en1) : O2 (iRange2 g en) QL := by
  obtain ⟨ds, en1, h1, i, j, rfl, h2, q⟩ := h
  exact ⟨_, _, by simp only [iRange2, h1, h2, and_self, if_true], q⟩
def zpD : List D → Option (List D)
  | [.list xs, .list ys] => some (zipD xs ys)
  | [.tuple xs, .tuple ys] => some (zipD xs ys)
  | _ => none
theorem w_zip (h : O2 (g en) fun ds en1 => O1 (zpD ds) fun es => QL es en1) : O2 (iZipD g en) QL := by
  obtain ⟨ds, en1, h1, es, h2, q⟩ := h
  refine ⟨es, en1, ?_, q⟩
  unfold zpD at h2
  split at h2 <;> first | (cases h2; simp only [iZipD, h1]) | cases h2
theorem w_for {k : FG} (h : O2 (l en) fun ds en1 => O1 (forD (turnD k s) ds en1) QO) : O1 (sFor l k s en) QO := by
  obtain ⟨ds, en1, h1, o, h2, q⟩ := h
  exact ⟨o, by simp only [sFor, h1, h2], q⟩
theorem w_turn {k : FG} {d : D} (h : O1 (k d en) fun en1 => O1 (s en1) QO) : O1 (turnD k s d en) QO := by
  obtain ⟨en1, h1, o, h2, q⟩ := h
  exact ⟨o, by simp only [turnD, h1, h2], q⟩
theorem w_comp {k : FG} {vs : List Nat} (h : O2 (l en) fun ds en1 => O2 (compD k t f vs ds (wipeE en1 vs) []) QL) : O2 (lComp l k t f vs en) QL := by
  obtain ⟨ds, en1, h1, o, en2, h2, q⟩ := h
  exact ⟨o, en2, by simp only [lComp, h1, h2], q⟩
theorem w_onone {QI : Option Int → En → Prop} (q : QI none en) : O2 (oNone en) QI := ⟨_, _, rfl, q⟩
theorem w_osome {QI : Option Int → En → Prop} (h : O2 (f en) fun d en1 => ∃ i, d = .int i ∧ QI (some i) en1) : O2 (oSome f en) QI := by
  obtain ⟨d, en1, h1, i, rfl, q⟩ := h
  exact ⟨_, _, by simp only [oSome, h1], q⟩
theorem w_slice {fl fh : FO} (h : O2 (f en) fun d en1 => O2 (fl en1) fun lo en2 => O2 (fh en2) fun hi en3 => O1 (sliceD d lo hi) fun z => Q z en3) : O2 (eSl f fl fh en) Q := by
  obtain ⟨d, en1, h1, lo, en2, h2, hi, en3, h3, z, h4, q⟩ := h
  exact ⟨_, _, by simp only [eSl, h1, h2, h3, h4], q⟩
theorem w_isi {T : String} (h : O2 (f en) fun d en1 => Q (.bool (isiD d T)) en1) : O2 (eIsi T f en) Q := by
  obtain ⟨d, en1, h1, q⟩ := h
  exact ⟨_, _, by simp only [eIsi, h1], q⟩
theorem w_isi2 {T U : String} (h : O2 (f en) fun d en1 => Q (.bool (isiD d T || isiD d U)) en1) : O2 (eIsi2 T U f en) Q := by
  obtain ⟨d, en1, h1, q⟩ := h
  exact ⟨_, _, by simp only [eIsi2, h1], q⟩
theorem w_typ {neg : Bool} {T : String} (h : O2 (f en) fun d en1 => Q (.bool (if neg then !decide (typD d = T) else decide (typD d = T))) en1) : O2 (eTyp neg T f en) Q := by
  obtain ⟨d, en1, h1, q⟩ := h
  exact ⟨_, _, by simp only [eTyp, h1], q⟩
theorem w_nnew (h : O2 (l en) fun ds en1 => ds.all flatD = true ∧ Q (.list ds) en1) : O2 (nNew l en) Q := by
  obtain ⟨d, en1, h1, h2, q⟩ := h
  exact ⟨_, _, by simp only [nNew, h1, h2, if_true], q⟩
theorem w_nvar {d : D} (e : en[i]? = some (.vn d)) (q : Q d en) : O2 (nVar P i en) Q := ⟨_, _, by simp only [nVar, e], q⟩
theorem w_nvarO {ds : List D} (e : en[i]? = some (.ow ds)) (hi : i ∉ P) (hf : ds.all flatD = true) (q : Q (.list ds) (en.set i (.vn (.list ds)))) : O2 (nVar P i en) Q := ⟨_, _, by simp only [nVar, e]; exact if_pos ⟨hi, hf⟩, q⟩
theorem w_spoil (h : O2 (f en) fun d en1 => ∃ ds, d = .list ds ∧ (ds.all (roomL ds.length) = true ∧ en1.all ownLf = true ∧ isOwnO en1[i]? = false ∧ i < en1.length) ∧ QO (.nx ((en1.map clean).set i .un))) : O1 (sSpoil i f en) QO := by
  obtain ⟨d, en1, h1, ds, rfl, h2, q⟩ := h
  exact ⟨_, by simp only [sSpoil, h1, h2, and_self, if_true], q⟩
theorem w_newD {t : Bool} (hl : i < en.length) (q : QO (.nx (en.set i (.dc t [])))) : O1 (sNewD i t en) QO := ⟨_, by simp only [sNewD, hl, if_true], q⟩
theorem w_putD (h : O2 (fa en) fun d en1 => isDc en1[i]? = true ∧ O2 (fb en1) fun z en2 => ∃ t kvs k, en2[i]? = some (.dc t kvs) ∧ keyD t z = some k ∧ kvs.length < sizeLine ∧ QO (.nx (en2.set i (.dc t (putD kvs k d))))) : O1 (sPutD i fa fb en) QO := by
  obtain ⟨d, en1, h1, h2, z, en2, h3, t, kvs, k, h4, h5, h6, q⟩ := h
  exact ⟨_, by simp only [sPutD, h1, h2, h3, h4, h5, h6, if_true], q⟩
theorem w_getD (e : isDc en[i]? = true) (h : O2 (f en) fun z en1 => ∃ t kvs k d, en1[i]? = some (.dc t kvs) ∧ keyD t z = some k ∧ valD kvs k = some d ∧ Q d en1) : O2 (eGetD i f en) Q := by
  obtain ⟨z, en1, h1, t, kvs, k, d, h2, h3, h4, q⟩ := h
  exact ⟨_, _, by simp only [eGetD, e, h1, h2, h3, h4, if_true], q⟩
theorem w_getDf (e : isDc en[i]? = true) (h : O2 (fa en) fun z en1 => O2 (fb en1) fun y en2 => ∃ t kvs k, en2[i]? = some (.dc t kvs) ∧ keyD t z = some k ∧ Q ((valD kvs k).getD y) en2) : O2 (eGetDf i fa fb en) Q := by
  obtain ⟨z, en1, h1, y, en2, h2, t, kvs, k, h3, h4, q⟩ := h
  exact ⟨_, _, by simp only [eGetDf, e, h1, h2, h3, h4, if_true], q⟩
theorem w_inD {neg : Bool} (h : O2 (fa en) fun z en1 => ∃ t kvs k, en1[i]? = some (.dc t kvs) ∧ keyD t z = some k ∧ Q (.bool (if neg then !(valD kvs k).isSome else (valD kvs k).isSome)) en1) : O2 (eInD neg fa i en) Q := by
  obtain ⟨z, en1, h1, t, kvs, k, h3, h4, q⟩ := h
  exact ⟨_, _, by simp only [eInD, h1, h3, h4], q⟩
theorem w_sortedDK {kvs : DKV} {ns : List Int} (e : en[i]? = some (.dc false kvs)) (h : intKeys kvs = some ns) (q : QL ((sortI ns).map .int) en) : O2 (lSortedDK i en) QL := ⟨_, _, by simp only [lSortedDK, e, h], q⟩
theorem w_uvar {d : D} {QU : D → Prop} (e : en[i]? = some (.va d)) (q : QU d) : O1 (uVar i en) QU := ⟨_, by simp only [uVar, e], q⟩
theorem w_uvarN {d : D} {QU : D → Prop} (e : en[i]? = some (.vn d)) (q : QU d) : O1 (uVar i en) QU := ⟨_, by simp only [uVar, e], q⟩
theorem w_uvarO {d : List D} {QU : D → Prop} (e : en[i]? = some (.ow d)) (q : QU (.list d)) : O1 (uVar i en) QU := ⟨_, by simp only [uVar, e], q⟩
theorem w_ucons {fu : FU} {gu : FUL} {QU : List D → Prop} (h : O1 (fu en) fun d => O1 (gu en) fun ds => QU (d :: ds)) : O1 (ulCons fu gu en) QU := by
  obtain ⟨d, h1, ds, h2, q⟩ := h
  exact ⟨_, by simp only [ulCons, h1, h2], q⟩
theorem w_ulst {gu : FUL} {QU : D → Prop} (h : O1 (gu en) fun ds => ds.length ≤ sizeLine ∧ QU (.list ds)) : O1 (uLst gu en) QU := by
  obtain ⟨ds, h1, h2, q⟩ := h
  exact ⟨_, by simp only [uLst, h1, h2, if_true], q⟩
theorem w_utup {gu : FUL} {QU : D → Prop} (h : O1 (gu en) fun ds => ds.length ≤ sizeLine ∧ QU (.tuple ds)) : O1 (uTup gu en) QU := by
  obtain ⟨ds, h1, h2, q⟩ := h
  exact ⟨_, by simp only [uTup, h1, h2, if_true], q⟩
theorem w_some {α : Type} {a : α} {QU : α → Prop} (q : QU a) : O1 (some a) QU := ⟨_, rfl, q⟩
theorem w_auend {gu : FUL} (h : O1 (gu en) fun ds => QL ds en) : O2 (auEnd gu en) QL := by
  obtain ⟨ds, h1, q⟩ := h
  exact ⟨_, _, by simp only [auEnd, h1], q⟩
theorem w_ii {c : Int → Int → Bool} {k : Int → Int → D} {i j : Int} {QU : D → Prop} (h : c i j = true) (q : QU (k i j)) : O1 (gII c k (.int i) (.int j)) QU := ⟨_, by simp only [gII, h, if_true], q⟩
def fnQ (Q : D → En → Prop) : Out → Prop
  | .rt d en => Q d en
  | .nx en => Q .none en
  | .rf ds en => Q (.list ds) en
  | _ => False
def fnQL (Q : List D → En → Prop) : Out → Prop
  | .rf ds en => Q ds en
  | _ => False
theorem w_fn (m : Nat) {as : En} (h : O1 (s (as ++ List.replicate (m - as.length) .un)) (fnQ Q)) : O2 (fnV m s as) Q := by
  obtain ⟨o, h1, q⟩ := h
  cases o <;> first | exact ⟨_, _, by simp only [fnV, h1], q⟩ | exact q.elim
theorem w_fnL (m : Nat) {as : En} (h : O1 (s (as ++ List.replicate (m - as.length) .un)) (fnQL QL)) : O2 (fnL m s as) QL := by
  obtain ⟨o, h1, q⟩ := h
  cases o <;> first | exact ⟨_, _, by simp only [fnL, h1], q⟩ | exact q.elim
/-- a comprehension over mapped things, each turn of which leaves the slots as they are -/
theorem compD_map {α : Type} {k : FG} {vs : List Nat} {e : α → D} {q : α → Option D} {en0 : En} : ∀ (L : List α) (acc : List D), acc.length + L.length ≤ sizeLine →
    (∀ a ∈ L, O1 (k (e a) en0) fun en1 => O2 (t en1) fun b en2 => (b = false → q a = none ∧ wipeE en2 vs = en0) ∧ (b = true → O2 (f en2) fun y en3 => q a = some y ∧ wipeE en3 vs = en0)) → compD k t f vs (L.map e) en0 acc = some (acc ++ L.filterMap q, en0)
  | [], acc, _, _ => by simp [compD]
  | a :: L, acc, hl, h => by
    obtain ⟨en1, h1, b, en2, h2, q1, q2⟩ := h a (by simp)
    rw [List.map_cons]
    unfold compD
    simp only [h1, h2]
    cases b with
    | false =>
      obtain ⟨q3, q4⟩ := q1 rfl
      simp only
      rw [q4, compD_map L acc (by simp at hl ⊢; omega) fun a ha => h a (List.mem_cons_of_mem _ ha), List.filterMap_cons, q3]
    | true =>
      obtain ⟨y, en3, h3, q3, q4⟩ := q2 rfl
      simp only [h3]
      rw [if_pos (by simp at hl; omega), q4, compD_map L (acc ++ [y]) (by simp at hl ⊢; omega) fun a ha => h a (List.mem_cons_of_mem _ ha), List.filterMap_cons, q3]
      simp
theorem w_compD {α : Type} {k : FG} {vs : List Nat} {e : α → D} (q : α → Option D) {L : List α} (hl : L.length ≤ sizeLine)
    (h : ∀ a ∈ L, O1 (k (e a) en) fun en1 => O2 (t en1) fun b en2 => (b = false → q a = none ∧ wipeE en2 vs = en) ∧ (b = true → O2 (f en2) fun y en3 => q a = some y ∧ wipeE en3 vs = en)) (hq : QL (L.filterMap q) en) : O2 (compD k t f vs (L.map e) en []) QL :=
  ⟨_, _, by rw [compD_map L [] (by simpa using hl) h]; rfl, hq⟩
/-- a walk with an invariant -/
theorem w_forD {α : Type} {body : D → En → Option Out} {e : α → D} (I : Nat → En → Prop) : ∀ (L : List α) (j : Nat) (en : En), I j en → (∀ (i : Nat) (a : α) (en : En), L[i]? = some a → I (j + i) en → O1 (body (e a) en) fun o => ∃ en', o = .nx en' ∧ I (j + i + 1) en') → (∀ en, I (j + L.length) en → QO (.nx en)) → O1 (forD body (L.map e) en) QO
  | [], j, en, h, _, q => ⟨_, rfl, q en h⟩
  | a :: L, j, en, h, hb, q => by
    obtain ⟨o, h1, en1, rfl, h2⟩ := hb 0 a en rfl h
    rw [List.map_cons]
    have ih := w_forD I L (j + 1) en1 h2 (fun i a en e h => by
      have := hb (i + 1) a en (by simpa using e) (by rw [show j + (i + 1) = j + 1 + i by omega]; exact h)
      rw [show j + (i + 1) + 1 = j + 1 + i + 1 by omega] at this
      exact this) (fun en h => q en (by rw [List.length_cons, show j + (L.length + 1) = j + 1 + L.length by omega]; exact h))
    obtain ⟨o, h3, q⟩ := ih
    exact ⟨o, by unfold forD; simp only [h1, h3], q⟩
end

theorem w_geq {d e : D} {QU : D → Prop} (h1 : SeqAt.shaped d = true) (h2 : SeqAt.shaped e = true) (q : QU (.bool (PyData.eqv d e))) : O1 (gEq d e) QU := ⟨_, by simp only [gEq, h1, h2, and_self, if_true], q⟩
theorem w_gne {d e : D} {QU : D → Prop} (h1 : SeqAt.shaped d = true) (h2 : SeqAt.shaped e = true) (q : QU (.bool (!PyData.eqv d e))) : O1 (gNe d e) QU := ⟨_, by simp only [gNe, h1, h2, and_self, if_true], q⟩
theorem w_lenL {xs : List D} {QU : D → Prop} (q : QU (.int xs.length)) : O1 (gLen [.list xs]) QU := ⟨_, rfl, q⟩
theorem w_lenT {xs : List D} {QU : D → Prop} (q : QU (.int xs.length)) : O1 (gLen [.tuple xs]) QU := ⟨_, rfl, q⟩
theorem sz_of {n : Nat} (h : n ≤ 1000) : n ≤ sizeLine := Nat.le_trans h (by decide)
theorem x_bool {b : Bool} {Q : Bool → Prop} (q : Q b) : ∃ b', PyData.bool b = .bool b' ∧ Q b' := ⟨b, rfl, q⟩
theorem x_int {b : Int} {Q : Int → Prop} (q : Q b) : ∃ b', PyData.int b = .int b' ∧ Q b' := ⟨b, rfl, q⟩
theorem x_rng1 {b : Int} {Q : Int → Prop} (q : Q b) : ∃ b', [PyData.int b] = [.int b'] ∧ Q b' := ⟨b, rfl, q⟩
theorem x_rng2 {a b : Int} {Q : Int → Int → Prop} (q : Q a b) : ∃ a' b', [PyData.int a, PyData.int b] = [.int a', .int b'] ∧ Q a' b' := ⟨a, b, rfl, q⟩
theorem x_get {b : Int} {o : Option Sl} {ds : List D} {d : D} {Q : D → Prop} (h1 : o = some (.ow ds)) (h2 : atI ds b = some d) (q : Q d) : ∃ z ds d, PyData.int b = .int z ∧ o = some (.ow ds) ∧ atI ds z = some d ∧ Q d := ⟨b, ds, d, rfl, h1, h2, q⟩
theorem x_put {b : Int} {o : Option Sl} {ds : List D} {j : Nat} {Q : List D → Nat → Prop} (h1 : o = some (.ow ds)) (h2 : ixN ds.length b = some j) (q : Q ds j) : ∃ z ds j, PyData.int b = .int z ∧ o = some (.ow ds) ∧ ixN ds.length z = some j ∧ Q ds j := ⟨b, ds, j, rfl, h1, h2, q⟩
theorem x_app {o : Option Sl} {ds : List D} {Q : List D → Prop} (h1 : o = some (.ow ds)) (q : Q ds) : ∃ ds, o = some (.ow ds) ∧ Q ds := ⟨ds, h1, q⟩
theorem x_isow {o : Option Sl} {Q : Prop} (h1 : isOw o = true) (q : Q) : isOw o = true ∧ Q := ⟨h1, q⟩
theorem x_isowO {o : Option Sl} {Q : Prop} (h1 : isOwnO o = true) (q : Q) : isOwnO o = true ∧ Q := ⟨h1, q⟩
theorem x_isdc {o : Option Sl} {Q : Prop} (h1 : isDc o = true) (q : Q) : isDc o = true ∧ Q := ⟨h1, q⟩
theorem x_lt {i n : Nat} {Q : Prop} (h1 : i < n) (q : Q) : i < n ∧ Q := ⟨h1, q⟩
theorem x_hand {P : List Nat} {ms : List Md} {m n : Nat} {Q : Prop} (h1 : handOk P ms = true) (h2 : noB ms = true) (h3 : m = n) (q : Q) : (handOk P ms = true ∧ noB ms = true ∧ m = n) ∧ Q := ⟨⟨h1, h2, h3⟩, q⟩
theorem x_handB {ms : List Md} {m n : Nat} {Q : Prop} (h2 : noO ms = true) (h3 : m = n) (q : Q) : (noO ms = true ∧ m = n) ∧ Q := ⟨⟨h2, h3⟩, q⟩
theorem x_size {n : Nat} {Q : Prop} (h : n ≤ sizeLine) (q : Q) : n ≤ sizeLine ∧ Q := ⟨h, q⟩
theorem x_len {m n : Nat} {Q : Prop} (h : m = n) (q : Q) : m = n ∧ Q := ⟨h, q⟩
theorem seq_if {t : FT} {s s2 s' : FS} {en : En} {QO : Out → Prop} (h : O1 (sSeq (sIf t s s2) s' en) QO) : O1 (sSeq (sIf t s s2) s' en) QO := h
theorem x_ift {A B : Prop} (h : A) : (true = true → A) ∧ (true = false → B) := ⟨fun _ => h, fun z => nomatch z⟩
theorem x_iff {A B : Prop} (h : B) : (false = true → A) ∧ (false = false → B) := ⟨fun z => (nomatch z), fun _ => h⟩
theorem x_t {b : Bool} {A B : Prop} (e : b = true) (h : A) : (b = true → A) ∧ (b = false → B) := ⟨fun _ => h, fun z => absurd (e.symm.trans z) (by decide)⟩
theorem x_f {b : Bool} {A B : Prop} (e : b = false) (h : B) : (b = true → A) ∧ (b = false → B) := ⟨fun z => absurd (e.symm.trans z) (by decide), fun _ => h⟩
theorem x_tt {A B : Prop} (h : B) : (true = false → A) ∧ (true = true → B) := ⟨fun z => (nomatch z), fun _ => h⟩
theorem x_ff {A B : Prop} (h : A) : (false = false → A) ∧ (false = true → B) := ⟨fun _ => h, fun z => (nomatch z)⟩
/-- the steps, as far as they go -/
theorem st_ {P Q : Prop} (p : P) (h : P → Q := by
    intro p
    repeat (first
      | with_reducible refine w_op ?_
      | with_reducible refine w_var (by with_unfolding_all rfl) ?_
      | with_reducible refine w_varN (by with_unfolding_all rfl) ?_
      | with_reducible refine w_varO (by with_unfolding_all rfl) (by decide) ?_
      | with_reducible refine w_c ?_
      | with_reducible refine w_seq ?_
      | with_reducible refine w_if ?_
      | with_reducible refine w_set ?_
      | with_reducible refine w_bool ?_
      | with_reducible refine w_tru ?_
      | with_reducible refine w_not ?_
      | with_reducible refine w_and ?_
      | with_reducible refine w_or ?_
      | with_reducible refine w_yes ?_
      | with_reducible refine w_eand ?_
      | with_reducible refine w_eor ?_
      | with_reducible refine w_enot ?_
      | with_reducible refine w_eneg ?_
      | with_reducible refine w_eif ?_
      | with_reducible refine w_chain ?_
      | with_reducible refine w_anil ?_
      | with_reducible refine w_acons ?_
      | with_reducible refine w_tup ?_
      | with_reducible refine w_elst ?_
      | with_reducible refine w_llst ?_
      | with_reducible refine w_call ?_
      | with_reducible refine w_lcall ?_
      | with_reducible refine w_new ?_
      | with_reducible refine w_nil ?_
      | with_reducible refine w_drop ?_
      | with_reducible refine w_ret ?_
      | with_reducible refine w_retN ?_
      | with_reducible refine w_retF ?_
      | with_reducible refine w_retO (by with_unfolding_all rfl) (by decide) ?_
      | with_reducible refine w_setN ?_
      | with_reducible refine w_own ?_
      | with_reducible refine w_asg ?_
      | with_reducible refine w_gnm ?_
      | with_reducible refine w_gtp (by with_unfolding_all rfl) ?_
      | with_reducible refine w_gsnil ?_
      | with_reducible refine w_gscons ?_
      | with_reducible refine w_app (by with_unfolding_all rfl) ?_
      | with_reducible refine w_put ?_
      | with_reducible refine w_get (by with_unfolding_all rfl) ?_
      | with_reducible refine w_getV (by with_unfolding_all rfl) ?_
      | with_reducible refine w_lenO (by with_unfolding_all rfl) ?_
      | with_reducible refine w_newD (by (try simp only [List.length_cons, List.length_nil, List.length_set]); with_unfolding_all decide) ?_
      | with_reducible refine w_putD ?_
      | with_reducible refine w_getD (by with_unfolding_all rfl) ?_
      | with_reducible refine w_getDf (by with_unfolding_all rfl) ?_
      | with_reducible refine w_inD ?_
      | with_reducible refine w_mnil ?_
      | with_reducible refine w_mcons ?_
      | with_reducible refine w_mown (by with_unfolding_all rfl) ?_
      | with_reducible refine w_mlend (by with_unfolding_all rfl) ?_
      | with_reducible refine w_perm ?_
      | with_reducible refine w_callF ?_
      | with_reducible refine w_lcallF ?_
      | with_reducible refine w_callB ?_
      | with_reducible refine w_callU ?_
      | with_reducible refine w_items ?_
      | with_reducible refine w_range1 ?_
      | with_reducible refine w_range2 ?_
      | with_reducible refine w_zip ?_
      | with_reducible refine w_for ?_
      | with_reducible refine w_comp ?_
      | with_reducible refine w_onone ?_
      | with_reducible refine w_osome ?_
      | with_reducible refine w_slice ?_
      | with_reducible refine w_isi ?_
      | with_reducible refine w_isi2 ?_
      | with_reducible refine w_typ ?_
      | with_reducible refine w_nnew ?_
      | with_reducible refine w_nvar (by with_unfolding_all rfl) ?_
      | with_reducible refine w_nvarO (by with_unfolding_all rfl) (by decide) ?_ ?_
      | with_reducible refine w_spoil ?_
      | with_reducible refine w_uvar (by with_unfolding_all rfl) ?_
      | with_reducible refine w_uvarN (by with_unfolding_all rfl) ?_
      | with_reducible refine w_uvarO (by with_unfolding_all rfl) ?_
      | with_reducible refine w_ucons ?_
      | with_reducible refine w_ulst ?_
      | with_reducible refine w_utup ?_
      | with_reducible refine w_auend ?_
      | with_reducible refine w_some ?_
      | with_reducible refine thenQ_nx ?_
      | with_reducible refine thenQ_rt ?_
      | with_reducible refine thenQ_rf ?_
      | with_reducible refine w_geq (by with_unfolding_all rfl) (by with_unfolding_all rfl) ?_
      | with_reducible refine w_gne (by with_unfolding_all rfl) (by with_unfolding_all rfl) ?_
      | refine O1.of (x := gAdd _ _) rfl ?_
      | refine w_ii (by with_unfolding_all rfl) ?_
      | refine O1.of (x := gLt _ _) rfl ?_
      | refine O1.of (x := gLe _ _) rfl ?_
      | refine O1.of (x := gInt _) rfl ?_
      | with_reducible refine w_lenL ?_
      | with_reducible refine w_lenT ?_
      | refine O1.of (x := gMax2 _) rfl ?_
      | refine O1.of (x := gMin2 _) rfl ?_
      | refine O1.of (x := gIs _ _) rfl ?_
      | refine O1.of (x := gIsNot _ _) rfl ?_
      | refine O1.of (x := gIsA _ _) rfl ?_
      | refine O1.of (x := gIsNotA _ _) rfl ?_
      | refine O1.of (x := gTupOf _) rfl ?_
      | refine O1.of (x := gListOf _) rfl ?_
      | refine O1.of (x := truD _) rfl ?_
      | refine O1.of (x := itD _) rfl ?_
      | refine O1.of (x := gIx _ _) rfl ?_
      | with_reducible refine x_bool ?_
      | with_reducible refine x_ift ?_
      | with_reducible refine x_iff ?_
      | with_reducible refine x_tt ?_
      | with_reducible refine x_ff ?_
      | with_reducible refine x_int ?_
      | with_reducible refine x_rng1 ?_
      | with_reducible refine x_rng2 ?_
      | with_reducible refine x_get (by with_unfolding_all rfl) (by with_unfolding_all rfl) ?_
      | with_reducible refine x_put (by with_unfolding_all rfl) (by with_unfolding_all rfl) ?_
      | with_reducible refine x_app (by with_unfolding_all rfl) ?_
      | with_reducible refine x_isow (by with_unfolding_all rfl) ?_
      | with_reducible refine x_isowO (by with_unfolding_all rfl) ?_
      | with_reducible refine x_isdc (by with_unfolding_all rfl) ?_
      | with_reducible refine x_lt (by (try simp only [List.length_cons, List.length_nil, List.length_set]); with_unfolding_all decide) ?_
      | with_reducible refine x_hand (by with_unfolding_all rfl) (by with_unfolding_all rfl) (by with_unfolding_all rfl) ?_
      | with_reducible refine x_handB (by with_unfolding_all rfl) (by with_unfolding_all rfl) ?_
      | with_reducible refine x_size (sz_of (by (try simp only [List.length_cons, List.length_nil, List.length_set]); with_unfolding_all decide)) ?_
      | with_reducible refine x_len (by with_unfolding_all rfl) ?_
      | with_reducible refine x_t (by with_unfolding_all decide +kernel) ?_
      | with_reducible refine x_f (by with_unfolding_all decide +kernel) ?_)
    exact p) : Q := h p
/-- .. up to the next if that has something behind it -/
theorem sti_ {P Q : Prop} (p : P) (h : P → Q := by
    intro p
    repeat ((fail_if_success (with_reducible refine seq_if ?_)); (first
      | with_reducible refine w_op ?_
      | with_reducible refine w_var (by with_unfolding_all rfl) ?_
      | with_reducible refine w_varN (by with_unfolding_all rfl) ?_
      | with_reducible refine w_varO (by with_unfolding_all rfl) (by decide) ?_
      | with_reducible refine w_c ?_
      | with_reducible refine w_seq ?_
      | with_reducible refine w_if ?_
      | with_reducible refine w_set ?_
      | with_reducible refine w_bool ?_
      | with_reducible refine w_tru ?_
      | with_reducible refine w_not ?_
      | with_reducible refine w_and ?_
      | with_reducible refine w_or ?_
      | with_reducible refine w_yes ?_
      | with_reducible refine w_eand ?_
      | with_reducible refine w_eor ?_
      | with_reducible refine w_enot ?_
      | with_reducible refine w_eneg ?_
      | with_reducible refine w_eif ?_
      | with_reducible refine w_chain ?_
      | with_reducible refine w_anil ?_
      | with_reducible refine w_acons ?_
      | with_reducible refine w_tup ?_
      | with_reducible refine w_elst ?_
      | with_reducible refine w_llst ?_
      | with_reducible refine w_call ?_
      | with_reducible refine w_lcall ?_
      | with_reducible refine w_new ?_
      | with_reducible refine w_nil ?_
      | with_reducible refine w_drop ?_
      | with_reducible refine w_ret ?_
      | with_reducible refine w_retN ?_
      | with_reducible refine w_retF ?_
      | with_reducible refine w_retO (by with_unfolding_all rfl) (by decide) ?_
      | with_reducible refine w_setN ?_
      | with_reducible refine w_own ?_
      | with_reducible refine w_asg ?_
      | with_reducible refine w_gnm ?_
      | with_reducible refine w_gtp (by with_unfolding_all rfl) ?_
      | with_reducible refine w_gsnil ?_
      | with_reducible refine w_gscons ?_
      | with_reducible refine w_app (by with_unfolding_all rfl) ?_
      | with_reducible refine w_put ?_
      | with_reducible refine w_get (by with_unfolding_all rfl) ?_
      | with_reducible refine w_getV (by with_unfolding_all rfl) ?_
      | with_reducible refine w_lenO (by with_unfolding_all rfl) ?_
      | with_reducible refine w_newD (by (try simp only [List.length_cons, List.length_nil, List.length_set]); with_unfolding_all decide) ?_
      | with_reducible refine w_putD ?_
      | with_reducible refine w_getD (by with_unfolding_all rfl) ?_
      | with_reducible refine w_getDf (by with_unfolding_all rfl) ?_
      | with_reducible refine w_inD ?_
      | with_reducible refine w_mnil ?_
      | with_reducible refine w_mcons ?_
      | with_reducible refine w_mown (by with_unfolding_all rfl) ?_
      | with_reducible refine w_mlend (by with_unfolding_all rfl) ?_
      | with_reducible refine w_perm ?_
      | with_reducible refine w_callF ?_
      | with_reducible refine w_lcallF ?_
      | with_reducible refine w_callB ?_
      | with_reducible refine w_callU ?_
      | with_reducible refine w_items ?_
      | with_reducible refine w_range1 ?_
      | with_reducible refine w_range2 ?_
      | with_reducible refine w_zip ?_
      | with_reducible refine w_for ?_
      | with_reducible refine w_comp ?_
      | with_reducible refine w_onone ?_
      | with_reducible refine w_osome ?_
      | with_reducible refine w_slice ?_
      | with_reducible refine w_isi ?_
      | with_reducible refine w_isi2 ?_
      | with_reducible refine w_typ ?_
      | with_reducible refine w_nnew ?_
      | with_reducible refine w_nvar (by with_unfolding_all rfl) ?_
      | with_reducible refine w_nvarO (by with_unfolding_all rfl) (by decide) ?_ ?_
      | with_reducible refine w_spoil ?_
      | with_reducible refine w_uvar (by with_unfolding_all rfl) ?_
      | with_reducible refine w_uvarN (by with_unfolding_all rfl) ?_
      | with_reducible refine w_uvarO (by with_unfolding_all rfl) ?_
      | with_reducible refine w_ucons ?_
      | with_reducible refine w_ulst ?_
      | with_reducible refine w_utup ?_
      | with_reducible refine w_auend ?_
      | with_reducible refine w_some ?_
      | with_reducible refine thenQ_nx ?_
      | with_reducible refine thenQ_rt ?_
      | with_reducible refine thenQ_rf ?_
      | with_reducible refine w_geq (by with_unfolding_all rfl) (by with_unfolding_all rfl) ?_
      | with_reducible refine w_gne (by with_unfolding_all rfl) (by with_unfolding_all rfl) ?_
      | refine O1.of (x := gAdd _ _) rfl ?_
      | refine w_ii (by with_unfolding_all rfl) ?_
      | refine O1.of (x := gLt _ _) rfl ?_
      | refine O1.of (x := gLe _ _) rfl ?_
      | refine O1.of (x := gInt _) rfl ?_
      | with_reducible refine w_lenL ?_
      | with_reducible refine w_lenT ?_
      | refine O1.of (x := gMax2 _) rfl ?_
      | refine O1.of (x := gMin2 _) rfl ?_
      | refine O1.of (x := gIs _ _) rfl ?_
      | refine O1.of (x := gIsNot _ _) rfl ?_
      | refine O1.of (x := gIsA _ _) rfl ?_
      | refine O1.of (x := gIsNotA _ _) rfl ?_
      | refine O1.of (x := gTupOf _) rfl ?_
      | refine O1.of (x := gListOf _) rfl ?_
      | refine O1.of (x := truD _) rfl ?_
      | refine O1.of (x := itD _) rfl ?_
      | refine O1.of (x := gIx _ _) rfl ?_
      | with_reducible refine x_bool ?_
      | with_reducible refine x_ift ?_
      | with_reducible refine x_iff ?_
      | with_reducible refine x_tt ?_
      | with_reducible refine x_ff ?_
      | with_reducible refine x_int ?_
      | with_reducible refine x_rng1 ?_
      | with_reducible refine x_rng2 ?_
      | with_reducible refine x_get (by with_unfolding_all rfl) (by with_unfolding_all rfl) ?_
      | with_reducible refine x_put (by with_unfolding_all rfl) (by with_unfolding_all rfl) ?_
      | with_reducible refine x_app (by with_unfolding_all rfl) ?_
      | with_reducible refine x_isow (by with_unfolding_all rfl) ?_
      | with_reducible refine x_isowO (by with_unfolding_all rfl) ?_
      | with_reducible refine x_isdc (by with_unfolding_all rfl) ?_
      | with_reducible refine x_lt (by (try simp only [List.length_cons, List.length_nil, List.length_set]); with_unfolding_all decide) ?_
      | with_reducible refine x_hand (by with_unfolding_all rfl) (by with_unfolding_all rfl) (by with_unfolding_all rfl) ?_
      | with_reducible refine x_handB (by with_unfolding_all rfl) (by with_unfolding_all rfl) ?_
      | with_reducible refine x_size (sz_of (by (try simp only [List.length_cons, List.length_nil, List.length_set]); with_unfolding_all decide)) ?_
      | with_reducible refine x_len (by with_unfolding_all rfl) ?_
      | with_reducible refine x_t (by with_unfolding_all decide +kernel) ?_
      | with_reducible refine x_f (by with_unfolding_all decide +kernel) ?_))
    exact p) : Q := h p
section
variable {Pg : Program} {w : World} {K : PySem.W.Frag} {mg : Str → Option Value} {base : Heap}
/-- where a def that calls itself begins: a promise of nothing -/
theorem def_never {x : String} {st : Stmt} {N ps : List Str} {k : Nat} (P : Pl) (F : Nmd K mg x st ps) (S : FnScope N ps (defScope st)) : Def Pg w K mg base x (k + 1) ps (spV P ps.length fun _ => none) :=
  (def_V (P := P) (f := sNever) F S fun _ _ _ _ _ _ _ _ => PSs.weak pss_never fun Dn σ H h => by
    obtain ⟨Bf, ow, en, k, o, hf, q⟩ := h
    cases hf).ofV fun as r _ e => (nomatch e)
end
end VL

namespace VL
open PySem PySem.Spec
open PyProof.Rows L2
/-! ### what the top has written; the law's own head -/
section
variable {K : PySem.W.Frag} {mg : Str → Option Value}
theorem nmd_mk {h : Heap} {x : String} {st : Stmt} {ps : List Str} {f : Addr} {oc : Value} {od an : Option Addr} {osl : Array (Option Value)} {kV doc pm cdv ct : Value} (X : K.In h) (G : h.Ns mainGlobals mg)
    (a : PySem.W.nsIn K mainGlobals x = some (some (.ref f))) (l : K.lookup f = some ⟨oc, od, .func (PySem.W.fnOf x x (defArgs st) (defBody st) (defScope st) .none kV doc pm an cdv ct), osl⟩) (c : PySem.W.codeIn K cdv x = true) (k : PySem.W.keepIn K (.ref f) = true)
    (b : ∀ (kV doc pm : Value) (an : Option Addr) (cdv ct : Value) (us : List Value), us.length = ps.length → bindArgs (PySem.W.fnOf x x (defArgs st) (defBody st) (defScope st) .none kV doc pm an cdv ct) ⟨us, []⟩ = pure (ps.zip us)) : Nmd K mg x st ps :=
  ⟨f, _, PySem.W.mg_of X G a, fun_mk l c k, (fun_mk l c k).binds b⟩
def isLs (o : Obj) : Bool := match o.cls with
  | .type t => t == "list"
  | _ => false
def noLs (K : PySem.W.Frag) : Bool := K.all fun p => !isLs p.2
theorem lookup_mem {α β : Type} [BEq α] [LawfulBEq α] : ∀ {l : List (α × β)} {a : α} {b : β}, l.lookup a = some b → (a, b) ∈ l
  | [], _, _, h => by simp at h
  | (x, y) :: r, a, b, h => by
    rw [List.lookup_cons] at h
    cases e : a == x with
    | true =>
      rw [e] at h
      cases h
      rw [LawfulBEq.eq_of_beq e]
      exact List.mem_cons_self
    | false =>
      rw [e] at h
      exact List.mem_cons_of_mem _ (lookup_mem h)
theorem noLs_sq (h : noLs K = true) {H : Hp} {a : Addr} {xs : List V} (r : SqL K H a xs) : Rd H a (.lst xs) := by
  rcases r with r | ⟨o, its, n, h1, h2, _⟩
  · exact r
  · have := List.all_eq_true.mp h _ (lookup_mem h1)
    unfold isLs at this
    rw [h2] at this
    exact absurd this (by decide)
theorem law_sp {F : FF} (hF : ∀ ns : List Int, ns.length ≤ 63 → O2 (F [.va (.list (ns.map .int))]) fun r _ => r = .bool true) {H : Hp} {a : Addr} {ns : List Int} (hl : ns.length ≤ 63) (r : Rd H a (.lst (ns.map V.int))) {E : XK} {tb : List (Addr × Str)} (ht : LamX.Tabs tb H) :
    spV ⟨[], tb⟩ 1 F [.ref a] H (fun v _ => v = .bl true) E := by
  obtain ⟨d, as', h1, rfl⟩ := hF ns hl
  refine ⟨⟨fun _ => False, fun _ => False⟩, fun _ => none, [.va (.list (ns.map .int))], rfl, ?_, fun i a e => (nomatch e), fun i d e => ?_, .bool true, as', h1, fun v H' _ p => ?_⟩
  · refine ⟨rfl, fun i d e => ?_, fun i d e => ?_, fun i s e f => ?_, fun i a e => (nomatch e), fun i j a e _ => (nomatch e), fun b z => z.elim, fun b z => z.elim, fun i a e => (nomatch e), ht⟩
    · match i, e with
      | 0, e =>
        cases e
        exact ⟨.ref a, rfl, .lst (fun z => z.elim (fun z => z) fun ⟨_, z⟩ => (nomatch z)) r (RpL.ofInts ns)⟩
      | i + 1, e => simp at e
    · match i, e with
      | 0, e => cases e
      | i + 1, e => simp at e
    · match i, e with
      | 0, e => cases e; cases f
      | i + 1, e => simp at e
  · match i, e with
    | 0, e => cases e
    | i + 1, e => simp at e
  · cases p
    rfl
end
theorem law_fn {P : Program} {w : World} {K : PySem.W.Frag} {mg : Str → Option Value} {fa : Addr} {st : Stmt} {k : Nat} {sp : Sp} (N : Nmd K mg "law" st ["script"]) (hmg : mg "law" = some (.ref fa))
    (hb : ∀ (kV doc pm : Value) (an : Option Addr) (cdv ct u : Value), bindArgs (PySem.W.fnOf "law" "law" (defArgs st) (defBody st) (defScope st) .none kV doc pm an cdv ct) ⟨[u], []⟩ = pure [(Str.ofString "script", u)]) (D : ∀ base : Heap, Def P w K mg base "law" k ["script"] sp) :
    ∃ fd : FuncData, (∀ (s : Shared) (u : Value), BindsTo s fd ⟨[u], []⟩ [("script", u)]) ∧ ∀ base : Heap, FnOk P w K mg base CX0 k fa fd ["script"] sp := by
  obtain ⟨f, fd, h1, h2, h3⟩ := N.ex
  obtain ⟨oc, od, kV, doc, pm, an, cdv, ct, osl, rfl, lk, hcd⟩ := h2.ex
  rw [hmg] at h1
  cases h1
  refine ⟨_, fun s u => .of_eq (hb kV doc pm an cdv ct u), fun base => ?_⟩
  obtain ⟨f', fd', g1, g2, g3, g4, oc', od', osl', g5⟩ := (D base).ex
  rw [hmg] at g1
  cases g1
  rw [lk] at g5
  cases g5
  exact g4
theorem law_walk {l : PySem.W.OpenLaw} {q : Program} {loose : List Str} {XP : (Str → Option Value) → Heap → Prop} {YP : World → Heap → Prop} {d : DefRec} {K : Params → PySem.W.Frag} {F : FF} {k : Nat} (hF : ∀ ns : List Int, ns.length ≤ 63 → O2 (F [.va (.list (ns.map .int))]) fun r _ => r = .bool true)
    (hn : l.most = some 63) (hdf : d.params.defaults = []) (hr : Room k callerA) (hY : ∀ (w : World) (h : Heap), YP w h → (K w.params).In h) (hno : ∀ w : World, noLs (K w.params) = true)
    (G : ∀ (w : World) (mg : Str → Option Value) (fa : Addr) (h : Heap), (K w.params).In h → h.Ns mainGlobals mg → mg d.name = some (.ref fa) →
      ∃ fd : FuncData, (∀ (s : Shared) (u : Value), BindsTo s fd ⟨[u], []⟩ [("script", u)]) ∧ ∀ base : Heap, FnOk l.prog w (K w.params) mg base CX0 k fa fd ["script"] (spV ⟨[], []⟩ 1 F)) :
    PySem.W.WalkO q loose XP YP l.row.toRowW d [] (fun f vs => PySem.call f vs) :=
  L2.walk_of (n := 63) (k := k) (x := "script") (CX := fun _ => CX0) (sp := fun _ => spV ⟨[], []⟩ 1 F) hn (by decide) hdf hr hY (fun w mg fa h X N e => let ⟨fd, h1, h2⟩ := G w mg fa h X N e; ⟨fd, h1, fun base _ _ => h2 base⟩)
    (fun w H a ns hl _ hS => law_sp hF hl (noLs_sq (hno w) hS) (fun _ h => nomatch h)) fun _ _ _ _ _ z => z
end VL

namespace G
open PySem PySem.Spec PyProof.Rows L2 VL
def topS (i : Nat) : Stmt := PySem.Challenge.pw_oldestbills_k20_charge.main.body.getD i (.Pass ⟨0, 0, 0, 0⟩)
abbrev s_is_integer : Stmt := topS 5
abbrev s_is_sum : Stmt := topS 6
abbrev s_is_ascending : Stmt := topS 7
abbrev s_is_integer_and_sum : Stmt := topS 8
abbrev s_fits_tariff : Stmt := topS 9
abbrev s_check_day : Stmt := topS 10
abbrev s_check_tariff : Stmt := topS 11
abbrev s_is_tariff : Stmt := topS 13
abbrev s_charge : Stmt := topS 14
abbrev s_charge_by : Stmt := topS 15
abbrev s__law_draws : Stmt := topS 17
abbrev s__law_pick : Stmt := topS 18
abbrev s__law_wide : Stmt := topS 19
abbrev s__law_fee : Stmt := topS 20
abbrev s__law_a_plan : Stmt := topS 21
abbrev s__law_same : Stmt := topS 22
abbrev s_law : Stmt := topS 23
/-- what the top has written -/
structure Txt (K : PySem.W.Frag) (mg : Str → Option Value) : Prop where
  z_all : mg "all" = none
  z_bool : mg "bool" = none
  z_int : mg "int" = none
  z_isinstance : mg "isinstance" = none
  z_len : mg "len" = none
  z_max : mg "max" = none
  z_range : mg "range" = none
  z_repr : mg "repr" = none
  z_sorted : mg "sorted" = none
  z_sum : mg "sum" = none
  z_tuple : mg "tuple" = none
  z_type : mg "type" = none
  d_is_integer : Nmd K mg "is_integer" s_is_integer ["value"]
  d_is_sum : Nmd K mg "is_sum" s_is_sum ["value"]
  d_is_ascending : Nmd K mg "is_ascending" s_is_ascending ["rows"]
  d_is_integer_and_sum : Nmd K mg "is_integer_and_sum" s_is_integer_and_sum ["value"]
  d_fits_tariff : Nmd K mg "fits_tariff" s_fits_tariff ["value"]
  d_check_day : Nmd K mg "check_day" s_check_day ["day"]
  d_check_tariff : Nmd K mg "check_tariff" s_check_tariff ["tariff"]
  d_is_tariff : Nmd K mg "is_tariff" s_is_tariff ["value"]
  d_charge : Nmd K mg "charge" s_charge ["tariff", "delay"]
  d_charge_by : Nmd K mg "charge_by" s_charge_by ["tariff", "delay"]
  d__law_draws : Nmd K mg "_law_draws" s__law_draws ["cell"]
  d__law_pick : Nmd K mg "_law_pick" s__law_pick ["stock", "upto"]
  d__law_wide : Nmd K mg "_law_wide" s__law_wide ["stock", "upto"]
  d__law_fee : Nmd K mg "_law_fee" s__law_fee ["plan", "gap"]
  d__law_a_plan : Nmd K mg "_law_a_plan" s__law_a_plan ["stock", "many"]
  d__law_same : Nmd K mg "_law_same" s__law_same ["back", "due"]
  d_law : Nmd K mg "law" s_law ["script"]
  k_charge_delay_tariff : Kwd K mg "charge" ["tariff", "delay"] ["delay", "tariff"] [1, 0]
section
variable {Pg : Program} {w : World} {K : PySem.W.Frag} {mg : Str → Option Value} {base : Heap} {tb : List (Addr × Str)}
theorem sc_is_integer : FnScope ["value"] ["value"] (defScope s_is_integer) := ⟨rfl, rfl, rfl, by decide +kernel, rfl, by decide +kernel, by decide +kernel⟩
def f_is_integer : FS := (sRet (eAnd (eIsi "int" (eVar [] 0)) (eNot (eIsi "bool" (eVar [] 0)))))
theorem ok_is_integer (T : Txt K mg)  : Def Pg w K mg base "is_integer" 1 ["value"] (spV ⟨[], tb⟩ 1 (fnV 1 (f_is_integer ))) :=
  def_V (N := ["value"]) T.d_is_integer sc_is_integer fun fa cdv A outer s H E hr =>
    (vb_one (vs_ret (ve_and (ve_isi (by decide) (by rfl) T.z_isinstance (by rfl) T.z_int (by rfl) (ve_var (i := 0) rfl)) (ve_one (ve_not (ve_isi (by decide) (by rfl) T.z_isinstance (by rfl) T.z_bool (by rfl) (ve_var (i := 0) rfl)))))))
def C_is_integer : FF := fnV 1 (f_is_integer )
theorem dd_is_integer (T : Txt K mg) : Def Pg w K mg base "is_integer" 1 ["value"] (spV ⟨[], tb⟩ 1 C_is_integer) := ok_is_integer T 
theorem sc_is_sum : FnScope ["value"] ["value"] (defScope s_is_sum) := ⟨rfl, rfl, rfl, by decide +kernel, rfl, by decide +kernel, by decide +kernel⟩
def f_is_sum : FS := (sRet (eAnd (eIsi "int" (eVar [] 0)) (eAnd (eNot (eIsi "bool" (eVar [] 0))) (eOp gGe (eVar [] 0) (eC (.int 1))))))
theorem ok_is_sum (T : Txt K mg)  : Def Pg w K mg base "is_sum" 1 ["value"] (spV ⟨[], tb⟩ 1 (fnV 1 (f_is_sum ))) :=
  def_V (N := ["value"]) T.d_is_sum sc_is_sum fun fa cdv A outer s H E hr =>
    (vb_one (vs_ret (ve_and (ve_isi (by decide) (by rfl) T.z_isinstance (by rfl) T.z_int (by rfl) (ve_var (i := 0) rfl)) (ve_and (ve_not (ve_isi (by decide) (by rfl) T.z_isinstance (by rfl) T.z_bool (by rfl) (ve_var (i := 0) rfl))) (ve_one (ve_cmp op_ge ov_ge (ve_var (i := 0) rfl) ve_int (nomark _)))))))
def C_is_sum : FF := fnV 1 (f_is_sum )
theorem dd_is_sum (T : Txt K mg) : Def Pg w K mg base "is_sum" 1 ["value"] (spV ⟨[], tb⟩ 1 C_is_sum) := ok_is_sum T 
theorem sc_is_ascending : FnScope ["rows", "k"] ["rows"] (defScope s_is_ascending) := ⟨rfl, rfl, rfl, by decide +kernel, rfl, by decide +kernel, by decide +kernel⟩
def f_is_ascending : FS := (sRet (eCall gAll (aCons (eNew (lComp (iRange1 (aCons (eOp gSub (eCall gLen (aCons (eVar [] 0) aNil)) (eC (.int 1))) aNil)) (gNm 1) tYesV (eOp gLt (eOp gIx (eVar [] 0) (eVar [] 1)) (eOp gIx (eVar [] 0) (eOp gAdd (eVar [] 1) (eC (.int 1))))) [1])) aNil)))
theorem ok_is_ascending (T : Txt K mg)  : Def Pg w K mg base "is_ascending" 1 ["rows"] (spV ⟨[], tb⟩ 1 (fnV 2 (f_is_ascending ))) :=
  def_V (N := ["rows", "k"]) T.d_is_ascending sc_is_ascending fun fa cdv A outer s H E hr =>
    (vb_one (vs_ret (ve_callB (cr_all rfl) ca_all (by rfl) T.z_all (by decide +kernel) (va_cons (ve_new (vf_lc rfl sc_is_ascending.nd (vi_range1 (by rfl) T.z_range (va_cons (ve_op op_sub ov_sub (ve_callB call_len ca_len (by rfl) T.z_len (by decide +kernel) (va_cons (ve_var (i := 0) rfl) va_nil)) ve_int) va_nil)) (blkOk_by (own := [("k", 1)]) (N := ["rows", "k"]) (sc := defScope s_is_ascending) (by decide +kernel)) rfl (pl_all (by decide)) (by decide) (fun _ _ _ _ _ => (vg_name (i := 1) sc_is_ascending.nd rfl (hP := pl_not (by decide)))) (fun _ _ _ _ _ => vts_nil) (fun _ _ _ _ _ => (ve_cmp (op_ltAll hr.units0) ov_lt (ve_ix ix_seq ov_ix (ve_var (i := 0) rfl) (ve_var (i := 1) rfl) (fun _ _ => rfl)) (ve_ix ix_seq ov_ix (ve_var (i := 0) rfl) (ve_op op_addAll ov_add (ve_var (i := 1) rfl) ve_int) (fun _ _ => rfl)) (nomark _))))) va_nil))))
def C_is_ascending : FF := fnV 2 (f_is_ascending )
theorem dd_is_ascending (T : Txt K mg) : Def Pg w K mg base "is_ascending" 1 ["rows"] (spV ⟨[], tb⟩ 1 C_is_ascending) := ok_is_ascending T 
theorem sc_charge_by : FnScope ["tariff", "delay", "slope", "corners", "at", "more"] ["tariff", "delay"] (defScope s_charge_by) := ⟨rfl, rfl, rfl, by decide +kernel, rfl, by decide +kernel, by decide +kernel⟩
def f_charge_by : FS := (sSeq (sAsg (eVar [] 0) (gTp 2 (gsCons (gNm 2) (gsCons (gNm 3) gsNil))))
    (sRet (eOp gAdd (eOp gMulI (eVar [] 2) (eVar [] 1)) (eCall gSum (aCons (eNew (lComp (iItems (eVar [] 3)) (gTp 2 (gsCons (gNm 4) (gsCons (gNm 5) gsNil))) (fBool (eOp gLt (eVar [] 4) (eVar [] 1))) (eOp gMulI (eVar [] 5) (eOp gSub (eVar [] 1) (eVar [] 4))) [4, 5])) aNil)))))
theorem ok_charge_by (T : Txt K mg)  : Def Pg w K mg base "charge_by" 1 ["tariff", "delay"] (spV ⟨[], tb⟩ 2 (fnV 6 (f_charge_by ))) :=
  def_V (N := ["tariff", "delay", "slope", "corners", "at", "more"]) T.d_charge_by sc_charge_by fun fa cdv A outer s H E hr =>
    (vb_cons (vs_asg (ve_var (i := 0) rfl) (vg_tup rfl (vgs_cons (vg_name (i := 2) sc_charge_by.nd rfl (hP := pl_not (by decide))) (vgs_cons (vg_name (i := 3) sc_charge_by.nd rfl (hP := pl_not (by decide))) vgs_nil))))
      (vb_one (vs_ret (ve_op op_addAll ov_add (ve_op op_mulW ov_mulI (ve_var (i := 2) rfl) (ve_var (i := 1) rfl)) (ve_callB (cr_sum rfl) ca_sum (by rfl) T.z_sum (by decide +kernel) (va_cons (ve_new (vf_lc rfl sc_charge_by.nd (vi_seq (ve_var (i := 3) rfl)) (blkOk_by (own := [("at", 4), ("more", 5)]) (N := ["tariff", "delay", "slope", "corners", "at", "more"]) (sc := defScope s_charge_by) (by decide +kernel)) rfl (pl_all (by decide)) (by decide) (fun _ _ _ _ _ => (vg_tup rfl (vgs_cons (vg_name (i := 4) sc_charge_by.nd rfl (hP := pl_not (by decide))) (vgs_cons (vg_name (i := 5) sc_charge_by.nd rfl (hP := pl_not (by decide))) vgs_nil)))) (fun _ _ _ _ _ => (vts_one (vt_cmp (op_ltAll hr.units0) ov_lt (ve_var (i := 4) rfl) (ve_var (i := 1) rfl) (nomark _)))) (fun _ _ _ _ _ => (ve_op op_mulW ov_mulI (ve_var (i := 5) rfl) (ve_op op_sub ov_sub (ve_var (i := 1) rfl) (ve_var (i := 4) rfl)))))) va_nil))))))
def C_charge_by : FF := fnV 6 (f_charge_by )
theorem dd_charge_by (T : Txt K mg) : Def Pg w K mg base "charge_by" 1 ["tariff", "delay"] (spV ⟨[], tb⟩ 2 C_charge_by) := ok_charge_by T 
theorem sc__law_draws : FnScope ["cell"] ["cell"] (defScope s__law_draws) := ⟨rfl, rfl, rfl, by decide +kernel, rfl, by decide +kernel, by decide +kernel⟩
def f__law_draws : FS := (sRetF (lLst (aCons (eCall gMax2 (aCons (eC (.int 0)) (aCons (eOp gSub (eCall gInt (aCons (eVar [] 0) aNil)) (eOp gPow (eC (.int 10)) (eC (.int 18)))) aNil))) (aCons (eOp gMod (eCall gInt (aCons (eVar [] 0) aNil)) (eC (.int 999999999999999989))) (aCons (eC (.int 0)) aNil)))))
theorem ok__law_draws (T : Txt K mg)  : Def Pg w K mg base "_law_draws" 1 ["cell"] (spL ⟨[], tb⟩ 1 (fnL 1 (f__law_draws ))) :=
  def_L (N := ["cell"]) T.d__law_draws sc__law_draws fun fa cdv A outer s H E hr =>
    (vb_one (vs_retF (vf_lst (va_cons (ve_callB (call_max2 rfl) ca_max2 (by rfl) T.z_max (by decide +kernel) (va_cons ve_int (va_cons (ve_op op_sub ov_sub (ve_callTy call_int1 ca_int (by rfl) T.z_int (by decide +kernel) (va_cons (ve_var (i := 0) rfl) va_nil)) (ve_op op_pow ov_pow ve_int ve_int)) va_nil))) (va_cons (ve_op op_mod ov_mod (ve_callTy call_int1 ca_int (by rfl) T.z_int (by decide +kernel) (va_cons (ve_var (i := 0) rfl) va_nil)) ve_int) (va_cons ve_int va_nil))))))
def C_draws : FFL := fnL 1 (f__law_draws )
theorem dd__law_draws (T : Txt K mg) : Def Pg w K mg base "_law_draws" 1 ["cell"] (spL ⟨[], tb⟩ 1 C_draws) := ok__law_draws T 
theorem sc__law_pick : FnScope ["stock", "upto", "turn", "stir", "digit"] ["stock", "upto"] (defScope s__law_pick) := ⟨rfl, rfl, rfl, by decide +kernel, rfl, by decide +kernel, by decide +kernel⟩
def f__law_pick : FS := (sSeq (sIf (fBool (eOp gGt (eGet 0 (eC (.int 0))) (eC (.int 0)))) (sSeq (sSet 4 (eOp gMod (eCall gInt (aCons (eGet 0 (eC (.int 0))) aNil)) (eVar [0] 1)))
    (sSeq (sPut 0 (eOp gFdiv (eGet 0 (eC (.int 0))) (eVar [0] 1)) (eC (.int 0)))
    (sRet (eVar [0] 4)))) sNil)
    (sSeq (sPut 0 (eOp gAdd (eGet 0 (eC (.int 2))) (eC (.int 1))) (eC (.int 2)))
    (sSeq (sSet 2 (eGet 0 (eC (.int 2))))
    (sSeq (sSet 3 (eOp gAdd (eOp gAdd (eGet 0 (eC (.int 1))) (eOp gMulI (eOp gMulI (eC (.int 9176)) (eVar [0] 2)) (eVar [0] 2))) (eC (.int 31))))
    (sSeq (sSet 3 (eOp gAdd (eOp gMulI (eVar [0] 3) (eOp gAdd (eGet 0 (eC (.int 1))) (eOp gMulI (eC (.int 40503)) (eVar [0] 2)))) (eVar [0] 2)))
    (sSeq (sSet 3 (eOp gFdiv (eOp gMod (eCall gInt (aCons (eOp gAdd (eOp gMulI (eVar [0] 3) (eVar [0] 3)) (eOp gMulI (eC (.int 77731)) (eVar [0] 3))) aNil)) (eC (.int 1000000000000000003))) (eC (.int 4099))))
    (sRet (eOp gMod (eOp gFdiv (eOp gMod (eCall gInt (aCons (eOp gMulI (eVar [0] 3) (eOp gAdd (eOp gAdd (eVar [0] 3) (eOp gMulI (eC (.int 2)) (eVar [0] 2))) (eC (.int 1)))) aNil)) (eC (.int 4294967291))) (eC (.int 32))) (eVar [0] 1)))))))))
theorem ok__law_pick (T : Txt K mg)  : Def Pg w K mg base "_law_pick" 1 ["stock", "upto"] (spV ⟨[0], tb⟩ 2 (fnV 5 (f__law_pick ))) :=
  def_V (N := ["stock", "upto", "turn", "stir", "digit"]) T.d__law_pick sc__law_pick fun fa cdv A outer s H E hr =>
    (vb_cons (vs_if (vt_cmp op_gt ov_gt (ve_get (i := 0) rfl (hx := ve_int) (hs := by intro _ _; rfl)) ve_int (nomark _)) (vb_cons (vs_set (i := 4) sc__law_pick.nd rfl (hP := pl_not (by decide)) (he := (ve_op op_mod ov_mod (ve_callTy call_int1 ca_int (by rfl) T.z_int (by decide +kernel) (va_cons (ve_get (i := 0) rfl (hx := ve_int) (hs := by intro _ _; rfl)) va_nil)) (ve_var (i := 1) rfl))))
      (vb_cons (vs_put (i := 0) rfl (hx := ve_int) (he := (ve_op op_fdivW ov_fdiv (ve_get (i := 0) rfl (hx := ve_int) (hs := by intro _ _; rfl)) (ve_var (i := 1) rfl))))
      (vb_one (vs_ret (ve_var (i := 4) rfl))))) vb_nil)
      (vb_cons (vs_put (i := 0) rfl (hx := ve_int) (he := (ve_op op_addAll ov_add (ve_get (i := 0) rfl (hx := ve_int) (hs := by intro _ _; rfl)) ve_int)))
      (vb_cons (vs_set (i := 2) sc__law_pick.nd rfl (hP := pl_not (by decide)) (he := (ve_get (i := 0) rfl (hx := ve_int) (hs := by intro _ _; rfl))))
      (vb_cons (vs_set (i := 3) sc__law_pick.nd rfl (hP := pl_not (by decide)) (he := (ve_op op_addAll ov_add (ve_op op_addAll ov_add (ve_get (i := 0) rfl (hx := ve_int) (hs := by intro _ _; rfl)) (ve_op op_mulW ov_mulI (ve_op op_mulW ov_mulI ve_int (ve_var (i := 2) rfl)) (ve_var (i := 2) rfl))) ve_int)))
      (vb_cons (vs_set (i := 3) sc__law_pick.nd rfl (hP := pl_not (by decide)) (he := (ve_op op_addAll ov_add (ve_op op_mulW ov_mulI (ve_var (i := 3) rfl) (ve_op op_addAll ov_add (ve_get (i := 0) rfl (hx := ve_int) (hs := by intro _ _; rfl)) (ve_op op_mulW ov_mulI ve_int (ve_var (i := 2) rfl)))) (ve_var (i := 2) rfl))))
      (vb_cons (vs_set (i := 3) sc__law_pick.nd rfl (hP := pl_not (by decide)) (he := (ve_op op_fdivW ov_fdiv (ve_op op_mod ov_mod (ve_callTy call_int1 ca_int (by rfl) T.z_int (by decide +kernel) (va_cons (ve_op op_addAll ov_add (ve_op op_mulW ov_mulI (ve_var (i := 3) rfl) (ve_var (i := 3) rfl)) (ve_op op_mulW ov_mulI ve_int (ve_var (i := 3) rfl))) va_nil)) ve_int) ve_int)))
      (vb_one (vs_ret (ve_op op_mod ov_mod (ve_op op_fdivW ov_fdiv (ve_op op_mod ov_mod (ve_callTy call_int1 ca_int (by rfl) T.z_int (by decide +kernel) (va_cons (ve_op op_mulW ov_mulI (ve_var (i := 3) rfl) (ve_op op_addAll ov_add (ve_op op_addAll ov_add (ve_var (i := 3) rfl) (ve_op op_mulW ov_mulI ve_int (ve_var (i := 2) rfl))) ve_int)) va_nil)) ve_int) ve_int) (ve_var (i := 1) rfl))))))))))
def C_pick : FF := fnV 5 (f__law_pick )
theorem dd__law_pick (T : Txt K mg) : Def Pg w K mg base "_law_pick" 1 ["stock", "upto"] (spV ⟨[0], tb⟩ 2 C_pick) := ok__law_pick T 
theorem sc__law_fee : FnScope ["plan", "gap", "total", "corner", "more"] ["plan", "gap"] (defScope s__law_fee) := ⟨rfl, rfl, rfl, by decide +kernel, rfl, by decide +kernel, by decide +kernel⟩
def f__law_fee : FS := (sSeq (sSet 2 (eOp gMulI (eOp gIx (eVar [] 0) (eC (.int 0))) (eVar [] 1)))
    (sSeq (sFor (iItems (eOp gIx (eVar [] 0) (eC (.int 1)))) (gTp 2 (gsCons (gNm 3) (gsCons (gNm 4) gsNil))) (sIf (fBool (eOp gGt (eVar [] 1) (eVar [] 3))) (sSet 2 (eOp gAdd (eVar [] 2) (eOp gMulI (eVar [] 4) (eOp gSub (eVar [] 1) (eVar [] 3))))) sNil))
    (sRet (eVar [] 2))))
theorem ok__law_fee (T : Txt K mg)  : Def Pg w K mg base "_law_fee" 1 ["plan", "gap"] (spV ⟨[], tb⟩ 2 (fnV 5 (f__law_fee ))) :=
  def_V (N := ["plan", "gap", "total", "corner", "more"]) T.d__law_fee sc__law_fee fun fa cdv A outer s H E hr =>
    (vb_cons (vs_set (i := 2) sc__law_fee.nd rfl (hP := pl_not (by decide)) (he := (ve_op op_mulW ov_mulI (ve_ix ix_seq ov_ix (ve_var (i := 0) rfl) ve_int (fun _ _ => rfl)) (ve_var (i := 1) rfl))))
      (vb_cons (vs_for PassesOwn.never rfl (vi_seq (ve_ix ix_seq ov_ix (ve_var (i := 0) rfl) ve_int (fun _ _ => rfl))) (vg_tup rfl (vgs_cons (vg_name (i := 3) sc__law_fee.nd rfl (hP := pl_not (by decide))) (vgs_cons (vg_name (i := 4) sc__law_fee.nd rfl (hP := pl_not (by decide))) vgs_nil))) (vb_one (vs_if (vt_cmp op_gt ov_gt (ve_var (i := 1) rfl) (ve_var (i := 3) rfl) (nomark _)) (vb_one (vs_set (i := 2) sc__law_fee.nd rfl (hP := pl_not (by decide)) (he := (ve_op op_addAll ov_add (ve_var (i := 2) rfl) (ve_op op_mulW ov_mulI (ve_var (i := 4) rfl) (ve_op op_sub ov_sub (ve_var (i := 1) rfl) (ve_var (i := 3) rfl))))))) vb_nil)))
      (vb_one (vs_ret (ve_var (i := 2) rfl)))))
def C_fee : FF := fnV 5 (f__law_fee )
theorem dd__law_fee (T : Txt K mg) : Def Pg w K mg base "_law_fee" 1 ["plan", "gap"] (spV ⟨[], tb⟩ 2 C_fee) := ok__law_fee T 
theorem sc__law_same : FnScope ["back", "due"] ["back", "due"] (defScope s__law_same) := ⟨rfl, rfl, rfl, by decide +kernel, rfl, by decide +kernel, by decide +kernel⟩
def f__law_same : FS := (sRet (eOp gEq (eCall gRepr (aCons (eVar [] 0) aNil)) (eCall gRepr (aCons (eVar [] 1) aNil))))
theorem ok__law_same (T : Txt K mg)  : Def Pg w K mg base "_law_same" 1 ["back", "due"] (spV ⟨[], tb⟩ 2 (fnV 2 (f__law_same ))) :=
  def_V (N := ["back", "due"]) T.d__law_same sc__law_same fun fa cdv A outer s H E hr =>
    (vb_one (vs_ret (ve_cmp (op_eqD hr.units) ov_eq (ve_callB call_repr ca_repr (by rfl) T.z_repr (by decide +kernel) (va_cons (ve_var (i := 0) rfl) va_nil)) (ve_callB call_repr ca_repr (by rfl) T.z_repr (by decide +kernel) (va_cons (ve_var (i := 1) rfl) va_nil)) (nomark _))))
def C_same : FF := fnV 2 (f__law_same )
theorem dd__law_same (T : Txt K mg) : Def Pg w K mg base "_law_same" 1 ["back", "due"] (spV ⟨[], tb⟩ 2 C_same) := ok__law_same T 
theorem sc_is_integer_and_sum : FnScope ["value"] ["value"] (defScope s_is_integer_and_sum) := ⟨rfl, rfl, rfl, by decide +kernel, rfl, by decide +kernel, by decide +kernel⟩
def f_is_integer_and_sum (c_is_integer : FF) (c_is_sum : FF) : FS := (sRet (eAnd (eTyp false "tuple" (eVar [] 0)) (eAnd (eOp gEq (eCall gLen (aCons (eVar [] 0) aNil)) (eC (.int 2))) (eAnd (eCallF [] 1 c_is_integer (mCons (eOp gIx (eVar [] 0) (eC (.int 0))) mNil)) (eCallF [] 1 c_is_sum (mCons (eOp gIx (eVar [] 0) (eC (.int 1))) mNil))))))
theorem ok_is_integer_and_sum (T : Txt K mg) {c_is_integer : FF} (D_is_integer : Def Pg w K mg base "is_integer" 1 ["value"] (spV ⟨[], tb⟩ 1 c_is_integer)) {c_is_sum : FF} (D_is_sum : Def Pg w K mg base "is_sum" 1 ["value"] (spV ⟨[], tb⟩ 1 c_is_sum)) : Def Pg w K mg base "is_integer_and_sum" 2 ["value"] (spV ⟨[], tb⟩ 1 (fnV 1 (f_is_integer_and_sum c_is_integer c_is_sum))) :=
  def_V (N := ["value"]) T.d_is_integer_and_sum sc_is_integer_and_sum fun fa cdv A outer s H E hr =>
    (vb_one (vs_ret (ve_and (ve_typEq (by decide) (by rfl) T.z_type (by rfl) T.z_tuple (by rfl) (ve_var (i := 0) rfl)) (ve_and (ve_cmp (op_eqD hr.units) ov_eq (ve_callB call_len ca_len (by rfl) T.z_len (by decide +kernel) (va_cons (ve_var (i := 0) rfl) va_nil)) ve_int (nomark _)) (ve_and (ve_call D_is_integer (hr.mono (by decide)) (by rfl) (vm_cons (ve_ix ix_seq ov_ix (ve_var (i := 0) rfl) ve_int (fun _ _ => rfl)) vm_nil)) (ve_one (ve_call D_is_sum (hr.mono (by decide)) (by rfl) (vm_cons (ve_ix ix_seq ov_ix (ve_var (i := 0) rfl) ve_int (fun _ _ => rfl)) vm_nil))))))))
def C_is_integer_and_sum : FF := fnV 1 (f_is_integer_and_sum C_is_integer C_is_sum)
theorem dd_is_integer_and_sum (T : Txt K mg) : Def Pg w K mg base "is_integer_and_sum" 2 ["value"] (spV ⟨[], tb⟩ 1 C_is_integer_and_sum) := ok_is_integer_and_sum T (dd_is_integer T) (dd_is_sum T)
theorem sc_check_day : FnScope ["day"] ["day"] (defScope s_check_day) := ⟨rfl, rfl, rfl, by decide +kernel, rfl, by decide +kernel, by decide +kernel⟩
def f_check_day (c_is_integer : FF) : FS := (sIf (fNot (fTru (eCallF [] 1 c_is_integer (mCons (eVar [] 0) mNil)))) sNever sNil)
theorem ok_check_day (T : Txt K mg) {c_is_integer : FF} (D_is_integer : Def Pg w K mg base "is_integer" 1 ["value"] (spV ⟨[], tb⟩ 1 c_is_integer)) : Def Pg w K mg base "check_day" 2 ["day"] (spV ⟨[], tb⟩ 1 (fnV 1 (f_check_day c_is_integer))) :=
  def_V (N := ["day"]) T.d_check_day sc_check_day fun fa cdv A outer s H E hr =>
    (vb_one (vs_if (vt_not (vt_truth (ve_call D_is_integer (hr.mono (by decide)) (by rfl) (vm_cons (ve_var (i := 0) rfl) vm_nil)))) (vb_one vs_never) vb_nil))
def C_check_day : FF := fnV 1 (f_check_day C_is_integer)
theorem dd_check_day (T : Txt K mg) : Def Pg w K mg base "check_day" 2 ["day"] (spV ⟨[], tb⟩ 1 C_check_day) := ok_check_day T (dd_is_integer T)
theorem sc__law_wide : FnScope ["stock", "upto", "whole", "turn"] ["stock", "upto"] (defScope s__law_wide) := ⟨rfl, rfl, rfl, by decide +kernel, rfl, by decide +kernel, by decide +kernel⟩
def f__law_wide (c__law_pick : FF) : FS := (sSeq (sIf (fBool (eOp gLe (eVar [0] 1) (eOp gPow (eC (.int 10)) (eC (.int 7))))) (sRet (eCallF [0] 2 c__law_pick (mOwn 0 (mCons (eVar [0] 1) mNil)))) sNil)
    (sSeq (sSet 2 (eC (.int 0)))
    (sSeq (sFor (iRange1 (aCons (eC (.int 5)) aNil)) (gNm 3) (sSet 2 (eOp gAdd (eOp gMulI (eVar [0] 2) (eOp gPow (eC (.int 10)) (eC (.int 7)))) (eCallF [0] 2 c__law_pick (mOwn 0 (mCons (eOp gPow (eC (.int 10)) (eC (.int 7))) mNil))))))
    (sRet (eOp gMod (eCall gInt (aCons (eVar [0] 2) aNil)) (eVar [0] 1))))))
theorem ok__law_wide (T : Txt K mg) {c__law_pick : FF} (D__law_pick : Def Pg w K mg base "_law_pick" 1 ["stock", "upto"] (spV ⟨[0], tb⟩ 2 c__law_pick)) : Def Pg w K mg base "_law_wide" 2 ["stock", "upto"] (spV ⟨[0], tb⟩ 2 (fnV 4 (f__law_wide c__law_pick))) :=
  def_V (N := ["stock", "upto", "whole", "turn"]) T.d__law_wide sc__law_wide fun fa cdv A outer s H E hr =>
    (vb_cons (vs_if (vt_cmp op_le ov_le (ve_var (i := 1) rfl) (ve_op op_pow ov_pow ve_int ve_int) (nomark _)) (vb_one (vs_ret (ve_call D__law_pick (hr.mono (by decide)) (by rfl) (vm_own (i := 0) rfl (hr := (vm_cons (ve_var (i := 1) rfl) vm_nil)))))) vb_nil)
      (vb_cons (vs_set (i := 2) sc__law_wide.nd rfl (hP := pl_not (by decide)) (he := ve_int))
      (vb_cons (vs_for PassesOwn.never rfl (vi_range1 (by rfl) T.z_range (va_cons ve_int va_nil)) (vg_name (i := 3) sc__law_wide.nd rfl (hP := pl_not (by decide))) (vb_one (vs_set (i := 2) sc__law_wide.nd rfl (hP := pl_not (by decide)) (he := (ve_op op_addAll ov_add (ve_op op_mulW ov_mulI (ve_var (i := 2) rfl) (ve_op op_pow ov_pow ve_int ve_int)) (ve_call D__law_pick (hr.mono (by decide)) (by rfl) (vm_own (i := 0) rfl (hr := (vm_cons (ve_op op_pow ov_pow ve_int ve_int) vm_nil)))))))))
      (vb_one (vs_ret (ve_op op_mod ov_mod (ve_callTy call_int1 ca_int (by rfl) T.z_int (by decide +kernel) (va_cons (ve_var (i := 2) rfl) va_nil)) (ve_var (i := 1) rfl)))))))
def C_wide : FF := fnV 4 (f__law_wide C_pick)
theorem dd__law_wide (T : Txt K mg) : Def Pg w K mg base "_law_wide" 2 ["stock", "upto"] (spV ⟨[0], tb⟩ 2 C_wide) := ok__law_wide T (dd__law_pick T)
theorem sc_fits_tariff : FnScope ["value", "row", "at", "more"] ["value"] (defScope s_fits_tariff) := ⟨rfl, rfl, rfl, by decide +kernel, rfl, by decide +kernel, by decide +kernel⟩
def f_fits_tariff (c_is_integer : FF) (c_is_integer_and_sum : FF) (c_is_ascending : FF) : FS := (sSeq (sIf (fOr (fBool (eTyp true "tuple" (eVar [] 0))) (fOr (fBool (eOp gNe (eCall gLen (aCons (eVar [] 0) aNil)) (eC (.int 2)))) (fOr (fNot (fTru (eCallF [] 1 c_is_integer (mCons (eOp gIx (eVar [] 0) (eC (.int 0))) mNil)))) (fBool (eTyp true "tuple" (eOp gIx (eVar [] 0) (eC (.int 1)))))))) (sRet (eC (.bool false))) sNil)
    (sRet (eAnd (eCall gAll (aCons (eNew (lComp (iItems (eOp gIx (eVar [] 0) (eC (.int 1)))) (gNm 1) tYesV (eCallF [] 1 c_is_integer_and_sum (mCons (eVar [] 1) mNil)) [1])) aNil)) (eCallF [] 1 c_is_ascending (mCons (eNew (lComp (iItems (eOp gIx (eVar [] 0) (eC (.int 1)))) (gTp 2 (gsCons (gNm 2) (gsCons (gNm 3) gsNil))) tYesV (eVar [] 2) [2, 3])) mNil)))))
theorem ok_fits_tariff (T : Txt K mg) {c_is_integer : FF} (D_is_integer : Def Pg w K mg base "is_integer" 1 ["value"] (spV ⟨[], tb⟩ 1 c_is_integer)) {c_is_integer_and_sum : FF} (D_is_integer_and_sum : Def Pg w K mg base "is_integer_and_sum" 2 ["value"] (spV ⟨[], tb⟩ 1 c_is_integer_and_sum)) {c_is_ascending : FF} (D_is_ascending : Def Pg w K mg base "is_ascending" 1 ["rows"] (spV ⟨[], tb⟩ 1 c_is_ascending)) : Def Pg w K mg base "fits_tariff" 3 ["value"] (spV ⟨[], tb⟩ 1 (fnV 4 (f_fits_tariff c_is_integer c_is_integer_and_sum c_is_ascending))) :=
  def_V (N := ["value", "row", "at", "more"]) T.d_fits_tariff sc_fits_tariff fun fa cdv A outer s H E hr =>
    (vb_cons (vs_if (vt_bop (vw_or (vt_typNe (by decide) hr.units (by rfl) T.z_type (by rfl) T.z_tuple (by rfl) (ve_var (i := 0) rfl)) (vw_or (vt_cmp (op_neD hr.units) ov_ne (ve_callB call_len ca_len (by rfl) T.z_len (by decide +kernel) (va_cons (ve_var (i := 0) rfl) va_nil)) ve_int (nomark _)) (vw_or (vt_not (vt_truth (ve_call D_is_integer (hr.mono (by decide)) (by rfl) (vm_cons (ve_ix ix_seq ov_ix (ve_var (i := 0) rfl) ve_int (fun _ _ => rfl)) vm_nil)))) (vw_or1 (vt_typNe (by decide) hr.units (by rfl) T.z_type (by rfl) T.z_tuple (by rfl) (ve_ix ix_seq ov_ix (ve_var (i := 0) rfl) ve_int (fun _ _ => rfl)))))))) (vb_one (vs_ret ve_bl)) vb_nil)
      (vb_one (vs_ret (ve_and (ve_callB (cr_all rfl) ca_all (by rfl) T.z_all (by decide +kernel) (va_cons (ve_new (vf_lc rfl sc_fits_tariff.nd (vi_seq (ve_ix ix_seq ov_ix (ve_var (i := 0) rfl) ve_int (fun _ _ => rfl))) (blkOk_by (own := [("row", 1)]) (N := ["value", "row", "at", "more"]) (sc := defScope s_fits_tariff) (by decide +kernel)) rfl (pl_all (by decide)) (by decide) (fun _ _ _ _ _ => (vg_name (i := 1) sc_fits_tariff.nd rfl (hP := pl_not (by decide)))) (fun _ _ _ _ _ => vts_nil) (fun _ _ _ _ _ => (ve_call D_is_integer_and_sum (hr.mono (by decide)) (by rfl) (vm_cons (ve_var (i := 1) rfl) vm_nil))))) va_nil)) (ve_one (ve_call D_is_ascending (hr.mono (by decide)) (by rfl) (vm_cons (ve_new (vf_lc rfl sc_fits_tariff.nd (vi_seq (ve_ix ix_seq ov_ix (ve_var (i := 0) rfl) ve_int (fun _ _ => rfl))) (blkOk_by (own := [("at", 2), ("more", 3)]) (N := ["value", "row", "at", "more"]) (sc := defScope s_fits_tariff) (by decide +kernel)) rfl (pl_all (by decide)) (by decide) (fun _ _ _ _ _ => (vg_tup rfl (vgs_cons (vg_name (i := 2) sc_fits_tariff.nd rfl (hP := pl_not (by decide))) (vgs_cons (vg_name (i := 3) sc_fits_tariff.nd rfl (hP := pl_not (by decide))) vgs_nil)))) (fun _ _ _ _ _ => vts_nil) (fun _ _ _ _ _ => (ve_var (i := 2) rfl)))) vm_nil)))))))
def C_fits_tariff : FF := fnV 4 (f_fits_tariff C_is_integer C_is_integer_and_sum C_is_ascending)
theorem dd_fits_tariff (T : Txt K mg) : Def Pg w K mg base "fits_tariff" 3 ["value"] (spV ⟨[], tb⟩ 1 C_fits_tariff) := ok_fits_tariff T (dd_is_integer T) (dd_is_integer_and_sum T) (dd_is_ascending T)
theorem sc__law_a_plan : FnScope ["stock", "many", "top", "span", "corners", "turn", "row", "corner"] ["stock", "many"] (defScope s__law_a_plan) := ⟨rfl, rfl, rfl, by decide +kernel, rfl, by decide +kernel, by decide +kernel⟩
def f__law_a_plan (c__law_pick : FF) (c__law_wide : FF) : FS := (sSeq (sSet 2 (eOp gIx (eLst (aCons (eC (.int 3)) (aCons (eC (.int 12)) (aCons (eOp gPow (eC (.int 10)) (eC (.int 6))) (aCons (eOp gMulI (eC (.int 9)) (eOp gPow (eC (.int 10)) (eC (.int 29)))) aNil))))) (eCallF [0] 2 c__law_pick (mOwn 0 (mCons (eC (.int 4)) mNil)))))
    (sSeq (sSet 3 (eOp gIx (eLst (aCons (eC (.int 6)) (aCons (eC (.int 40)) (aCons (eOp gPow (eC (.int 10)) (eC (.int 6))) (aCons (eOp gMulI (eC (.int 9)) (eOp gPow (eC (.int 10)) (eC (.int 29)))) aNil))))) (eCallF [0] 2 c__law_pick (mOwn 0 (mCons (eC (.int 4)) mNil)))))
    (sSeq (sNewD 4 false)
    (sSeq (sFor (iRange1 (aCons (eCallF [0] 2 c__law_pick (mOwn 0 (mCons (eOp gAdd (eVar [0] 1) (eC (.int 1))) mNil))) aNil)) (gNm 5) (sPutD 4 (eOp gAdd (eC (.int 1)) (eCallF [0] 2 c__law_wide (mOwn 0 (mCons (eOp gSub (eVar [0] 2) (eC (.int 1))) mNil)))) (eOp gAdd (eOp gSub (eCallF [0] 2 c__law_wide (mOwn 0 (mCons (eOp gSub (eOp gMulI (eC (.int 2)) (eVar [0] 3)) (eC (.int 1))) mNil))) (eVar [0] 3)) (eC (.int 1)))))
    (sSeq (sSet 6 (eNew (lComp (iItems (eNew (lSortedDK 4))) (gNm 7) tYesV (eTup (aCons (eVar [0] 7) (aCons (eGetD 4 (eVar [0] 7)) aNil))) [7])))
    (sRet (eTup (aCons (eOp gAdd (eOp gSub (eCallF [0] 2 c__law_wide (mOwn 0 (mCons (eOp gSub (eOp gMulI (eC (.int 2)) (eVar [0] 2)) (eC (.int 1))) mNil))) (eVar [0] 2)) (eC (.int 1))) (aCons (eCall gTupOf (aCons (eVar [0] 6) aNil)) aNil)))))))))
theorem ok__law_a_plan (T : Txt K mg) {c__law_pick : FF} (D__law_pick : Def Pg w K mg base "_law_pick" 1 ["stock", "upto"] (spV ⟨[0], tb⟩ 2 c__law_pick)) {c__law_wide : FF} (D__law_wide : Def Pg w K mg base "_law_wide" 2 ["stock", "upto"] (spV ⟨[0], tb⟩ 2 c__law_wide)) : Def Pg w K mg base "_law_a_plan" 3 ["stock", "many"] (spV ⟨[0], tb⟩ 2 (fnV 8 (f__law_a_plan c__law_pick c__law_wide))) :=
  def_V (N := ["stock", "many", "top", "span", "corners", "turn", "row", "corner"]) T.d__law_a_plan sc__law_a_plan fun fa cdv A outer s H E hr =>
    (vb_cons (vs_set (i := 2) sc__law_a_plan.nd rfl (hP := pl_not (by decide)) (he := (ve_ix ix_seq ov_ix (ve_lst (va_cons ve_int (va_cons ve_int (va_cons (ve_op op_pow ov_pow ve_int ve_int) (va_cons (ve_op op_mulW ov_mulI ve_int (ve_op op_pow ov_pow ve_int ve_int)) va_nil))))) (ve_call D__law_pick (hr.mono (by decide)) (by rfl) (vm_own (i := 0) rfl (hr := (vm_cons ve_int vm_nil)))) (fun _ _ => rfl))))
      (vb_cons (vs_set (i := 3) sc__law_a_plan.nd rfl (hP := pl_not (by decide)) (he := (ve_ix ix_seq ov_ix (ve_lst (va_cons ve_int (va_cons ve_int (va_cons (ve_op op_pow ov_pow ve_int ve_int) (va_cons (ve_op op_mulW ov_mulI ve_int (ve_op op_pow ov_pow ve_int ve_int)) va_nil))))) (ve_call D__law_pick (hr.mono (by decide)) (by rfl) (vm_own (i := 0) rfl (hr := (vm_cons ve_int vm_nil)))) (fun _ _ => rfl))))
      (vb_cons (vs_newD (i := 4) false sc__law_a_plan.nd rfl (hP := pl_not (by decide)))
      (vb_cons (vs_for PassesOwn.never rfl (vi_range1 (by rfl) T.z_range (va_cons (ve_call D__law_pick (hr.mono (by decide)) (by rfl) (vm_own (i := 0) rfl (hr := (vm_cons (ve_op op_addAll ov_add (ve_var (i := 1) rfl) ve_int) vm_nil)))) va_nil)) (vg_name (i := 5) sc__law_a_plan.nd rfl (hP := pl_not (by decide))) (vb_one (vs_putD (i := 4) hr.units rfl (hx := (ve_op op_addAll ov_add (ve_op op_sub ov_sub (ve_call D__law_wide (hr.mono (by decide)) (by rfl) (vm_own (i := 0) rfl (hr := (vm_cons (ve_op op_sub ov_sub (ve_op op_mulW ov_mulI ve_int (ve_var (i := 3) rfl)) ve_int) vm_nil)))) (ve_var (i := 3) rfl)) ve_int)) (he := (ve_op op_addAll ov_add ve_int (ve_call D__law_wide (hr.mono (by decide)) (by rfl) (vm_own (i := 0) rfl (hr := (vm_cons (ve_op op_sub ov_sub (ve_var (i := 2) rfl) ve_int) vm_nil)))))))))
      (vb_cons (vs_setLc (i := 6) rfl sc__law_a_plan.nd rfl rfl (pl_not (by decide)) (sw_true rfl rfl rfl (by decide +kernel)) (vi_seq (ve_new (vf_sortedDK (i := 4) rfl rfl (hg := by rfl) (hm := T.z_sorted)))) (blkOk_by (own := [("corner", 7)]) (N := ["stock", "many", "top", "span", "corners", "turn", "row", "corner"]) (sc := defScope s__law_a_plan) (by decide +kernel)) rfl (pl_all (by decide)) (by decide) (fun _ _ _ _ _ => (vg_name (i := 7) sc__law_a_plan.nd rfl (hP := pl_not (by decide)))) (fun _ _ _ _ _ => vts_nil) (fun _ _ _ _ _ => (ve_tup (va_cons (ve_var (i := 7) rfl) (va_cons (ve_getD (i := 4) hr.units rfl (hx := (ve_var (i := 7) rfl))) va_nil)))))
      (vb_one (vs_ret (ve_tup (va_cons (ve_op op_addAll ov_add (ve_op op_sub ov_sub (ve_call D__law_wide (hr.mono (by decide)) (by rfl) (vm_own (i := 0) rfl (hr := (vm_cons (ve_op op_sub ov_sub (ve_op op_mulW ov_mulI ve_int (ve_var (i := 2) rfl)) ve_int) vm_nil)))) (ve_var (i := 2) rfl)) ve_int) (va_cons (ve_callTy call_tuple_of ca_tuple (by rfl) T.z_tuple (by decide +kernel) (va_cons (ve_var (i := 6) rfl) va_nil)) va_nil))))))))))
def C_a_plan : FF := fnV 8 (f__law_a_plan C_pick C_wide)
theorem dd__law_a_plan (T : Txt K mg) : Def Pg w K mg base "_law_a_plan" 3 ["stock", "many"] (spV ⟨[0], tb⟩ 2 C_a_plan) := ok__law_a_plan T (dd__law_pick T) (dd__law_wide T)
theorem sc_check_tariff : FnScope ["tariff"] ["tariff"] (defScope s_check_tariff) := ⟨rfl, rfl, rfl, by decide +kernel, rfl, by decide +kernel, by decide +kernel⟩
def f_check_tariff (c_fits_tariff : FF) : FS := (sIf (fNot (fTru (eCallF [] 1 c_fits_tariff (mCons (eVar [] 0) mNil)))) sNever sNil)
theorem ok_check_tariff (T : Txt K mg) {c_fits_tariff : FF} (D_fits_tariff : Def Pg w K mg base "fits_tariff" 3 ["value"] (spV ⟨[], tb⟩ 1 c_fits_tariff)) : Def Pg w K mg base "check_tariff" 4 ["tariff"] (spV ⟨[], tb⟩ 1 (fnV 1 (f_check_tariff c_fits_tariff))) :=
  def_V (N := ["tariff"]) T.d_check_tariff sc_check_tariff fun fa cdv A outer s H E hr =>
    (vb_one (vs_if (vt_not (vt_truth (ve_call D_fits_tariff (hr.mono (by decide)) (by rfl) (vm_cons (ve_var (i := 0) rfl) vm_nil)))) (vb_one vs_never) vb_nil))
def C_check_tariff : FF := fnV 1 (f_check_tariff C_fits_tariff)
theorem dd_check_tariff (T : Txt K mg) : Def Pg w K mg base "check_tariff" 4 ["tariff"] (spV ⟨[], tb⟩ 1 C_check_tariff) := ok_check_tariff T (dd_fits_tariff T)
theorem sc_is_tariff : FnScope ["value"] ["value"] (defScope s_is_tariff) := ⟨rfl, rfl, rfl, by decide +kernel, rfl, by decide +kernel, by decide +kernel⟩
def f_is_tariff (c_fits_tariff : FF) : FS := (sRet (eCallF [] 1 c_fits_tariff (mCons (eVar [] 0) mNil)))
theorem ok_is_tariff (T : Txt K mg) {c_fits_tariff : FF} (D_fits_tariff : Def Pg w K mg base "fits_tariff" 3 ["value"] (spV ⟨[], tb⟩ 1 c_fits_tariff)) : Def Pg w K mg base "is_tariff" 4 ["value"] (spV ⟨[], tb⟩ 1 (fnV 1 (f_is_tariff c_fits_tariff))) :=
  def_V (N := ["value"]) T.d_is_tariff sc_is_tariff fun fa cdv A outer s H E hr =>
    (vb_one (vs_ret (ve_call D_fits_tariff (hr.mono (by decide)) (by rfl) (vm_cons (ve_var (i := 0) rfl) vm_nil))))
def C_is_tariff : FF := fnV 1 (f_is_tariff C_fits_tariff)
theorem dd_is_tariff (T : Txt K mg) : Def Pg w K mg base "is_tariff" 4 ["value"] (spV ⟨[], tb⟩ 1 C_is_tariff) := ok_is_tariff T (dd_fits_tariff T)
theorem sc_charge : FnScope ["tariff", "delay"] ["tariff", "delay"] (defScope s_charge) := ⟨rfl, rfl, rfl, by decide +kernel, rfl, by decide +kernel, by decide +kernel⟩
def f_charge (c_check_tariff : FF) (c_check_day : FF) (c_charge_by : FF) : FS := (sSeq (sDrop (eCallF [] 1 c_check_tariff (mCons (eVar [] 0) mNil)))
    (sSeq (sDrop (eCallF [] 1 c_check_day (mCons (eVar [] 1) mNil)))
    (sRet (eCallF [] 2 c_charge_by (mCons (eVar [] 0) (mCons (eVar [] 1) mNil))))))
theorem ok_charge (T : Txt K mg) {c_check_tariff : FF} (D_check_tariff : Def Pg w K mg base "check_tariff" 4 ["tariff"] (spV ⟨[], tb⟩ 1 c_check_tariff)) {c_check_day : FF} (D_check_day : Def Pg w K mg base "check_day" 2 ["day"] (spV ⟨[], tb⟩ 1 c_check_day)) {c_charge_by : FF} (D_charge_by : Def Pg w K mg base "charge_by" 1 ["tariff", "delay"] (spV ⟨[], tb⟩ 2 c_charge_by)) : Def Pg w K mg base "charge" 5 ["tariff", "delay"] (spV ⟨[], tb⟩ 2 (fnV 2 (f_charge c_check_tariff c_check_day c_charge_by))) :=
  def_V (N := ["tariff", "delay"]) T.d_charge sc_charge fun fa cdv A outer s H E hr =>
    (vb_cons (vs_expr (ve_call D_check_tariff (hr.mono (by decide)) (by rfl) (vm_cons (ve_var (i := 0) rfl) vm_nil)))
      (vb_cons (vs_expr (ve_call D_check_day (hr.mono (by decide)) (by rfl) (vm_cons (ve_var (i := 1) rfl) vm_nil)))
      (vb_one (vs_ret (ve_call D_charge_by (hr.mono (by decide)) (by rfl) (vm_cons (ve_var (i := 0) rfl) (vm_cons (ve_var (i := 1) rfl) vm_nil)))))))
def C_charge : FF := fnV 2 (f_charge C_check_tariff C_check_day C_charge_by)
theorem dd_charge (T : Txt K mg) : Def Pg w K mg base "charge" 5 ["tariff", "delay"] (spV ⟨[], tb⟩ 2 C_charge) := ok_charge T (dd_check_tariff T) (dd_check_day T) (dd_charge_by T)
theorem sc_law : FnScope ["script", "great", "cell", "stock", "plan", "gaps", "corner", "more", "gap", "back"] ["script"] (defScope s_law) := ⟨rfl, rfl, rfl, by decide +kernel, rfl, by decide +kernel, by decide +kernel⟩
def f_law (c__law_draws : FFL) (c__law_a_plan : FF) (c__law_wide : FF) (c__law_pick : FF) (c__law_same : FF) (c__law_fee : FF) (c_charge : FF) (c_is_tariff : FF) : FS := (sSeq (sSet 1 (eC (.int 87956512302624623172088601172558782940379589863846638883097012422803920253)))
    (sSeq (sFor (iItems (eOp gAdd (eLst (aCons (eVar [] 1) aNil)) (eSl (eVar [] 0) oNone (oSome (eC (.int 24)))))) (gNm 2) (sSeq (sOwn 3 (lCallF [] 1 c__law_draws (mCons (eVar [] 2) mNil)))
    (sSeq (sSet 4 (eCallF [0] 2 c__law_a_plan (mOwn 3 (mCons (eC (.int 20)) mNil))))
    (sSeq (sOwn 5 (lLst (aCons (eOp gSub (eCallF [0] 2 c__law_pick (mOwn 3 (mCons (eC (.int 9)) mNil))) (eC (.int 4))) (aCons (eOp gSub (eCallF [0] 2 c__law_wide (mOwn 3 (mCons (eOp gMulI (eC (.int 2)) (eOp gPow (eC (.int 10)) (eC (.int 30)))) mNil))) (eOp gPow (eC (.int 10)) (eC (.int 30)))) aNil))))
    (sSeq (sFor (iItems (eOp gIx (eVar [] 4) (eC (.int 1)))) (gTp 2 (gsCons (gNm 6) (gsCons (gNm 7) gsNil))) (sApp 5 (eOp gSub (eOp gAdd (eVar [] 6) (eCallF [0] 2 c__law_pick (mOwn 3 (mCons (eC (.int 3)) mNil)))) (eC (.int 1)))))
    (sSeq (sFor (iItems (eOp gAdd (eVar [] 5) (eSl (eVar [] 5) oNone (oSome (eC (.int 3)))))) (gNm 8) (sIf (fNot (fTru (eCallF [] 2 c__law_same (mCons (eCallF [] 2 c_charge (mCons (eVar [] 4) (mCons (eVar [] 8) mNil))) (mCons (eCallF [] 2 c__law_fee (mCons (eVar [] 4) (mCons (eVar [] 8) mNil))) mNil))))) (sRet (eC (.bool false))) sNil))
    (sSeq (sSet 9 (eCallF [] 2 c_charge (mPerm 2 [1, 0] (mCons (eGet 5 (eC (.int 1))) (mCons (eVar [] 4) mNil)))))
    (sIf (fOr (fNot (fTru (eCallF [] 2 c__law_same (mCons (eVar [] 9) (mCons (eCallF [] 2 c__law_fee (mCons (eVar [] 4) (mCons (eGet 5 (eC (.int 1))) mNil))) mNil))))) (fBool (eOp gIsNotA (eCallF [] 1 c_is_tariff (mCons (eVar [] 4) mNil)) (eC (.bool true))))) (sRet (eC (.bool false))) sNil))))))))
    (sRet (eC (.bool true)))))
theorem ok_law (T : Txt K mg) {c__law_draws : FFL} (D__law_draws : Def Pg w K mg base "_law_draws" 1 ["cell"] (spL ⟨[], tb⟩ 1 c__law_draws)) {c__law_a_plan : FF} (D__law_a_plan : Def Pg w K mg base "_law_a_plan" 3 ["stock", "many"] (spV ⟨[0], tb⟩ 2 c__law_a_plan)) {c__law_wide : FF} (D__law_wide : Def Pg w K mg base "_law_wide" 2 ["stock", "upto"] (spV ⟨[0], tb⟩ 2 c__law_wide)) {c__law_pick : FF} (D__law_pick : Def Pg w K mg base "_law_pick" 1 ["stock", "upto"] (spV ⟨[0], tb⟩ 2 c__law_pick)) {c__law_same : FF} (D__law_same : Def Pg w K mg base "_law_same" 1 ["back", "due"] (spV ⟨[], tb⟩ 2 c__law_same)) {c__law_fee : FF} (D__law_fee : Def Pg w K mg base "_law_fee" 1 ["plan", "gap"] (spV ⟨[], tb⟩ 2 c__law_fee)) {c_charge : FF} (D_charge : Def Pg w K mg base "charge" 5 ["tariff", "delay"] (spV ⟨[], tb⟩ 2 c_charge)) {c_is_tariff : FF} (D_is_tariff : Def Pg w K mg base "is_tariff" 4 ["value"] (spV ⟨[], tb⟩ 1 c_is_tariff)) : Def Pg w K mg base "law" 6 ["script"] (spV ⟨[], tb⟩ 1 (fnV 10 (f_law c__law_draws c__law_a_plan c__law_wide c__law_pick c__law_same c__law_fee c_charge c_is_tariff))) :=
  def_V (N := ["script", "great", "cell", "stock", "plan", "gaps", "corner", "more", "gap", "back"]) T.d_law sc_law fun fa cdv A outer s H E hr =>
    (vb_cons (vs_set (i := 1) sc_law.nd rfl (hP := pl_not (by decide)) (he := ve_int))
      (vb_cons (vs_for PassesOwn.never rfl (vi_seq (ve_op op_addAll ov_add (ve_lst (va_cons (ve_var (i := 1) rfl) va_nil)) (ve_slice (ve_var (i := 0) rfl) vo_none (vo_some ve_int)))) (vg_name (i := 2) sc_law.nd rfl (hP := pl_not (by decide))) (vb_cons (vs_own (i := 3) sc_law.nd rfl (hP := pl_not (by decide)) (he := (vf_call D__law_draws (hr.mono (by decide)) (by rfl) (vm_cons (ve_var (i := 2) rfl) vm_nil))))
      (vb_cons (vs_set (i := 4) sc_law.nd rfl (hP := pl_not (by decide)) (he := (ve_call D__law_a_plan (hr.mono (by decide)) (by rfl) (vm_own (i := 3) rfl (hr := (vm_cons ve_int vm_nil))))))
      (vb_cons (vs_own (i := 5) sc_law.nd rfl (hP := pl_not (by decide)) (he := (vf_lst (va_cons (ve_op op_sub ov_sub (ve_call D__law_pick (hr.mono (by decide)) (by rfl) (vm_own (i := 3) rfl (hr := (vm_cons ve_int vm_nil)))) ve_int) (va_cons (ve_op op_sub ov_sub (ve_call D__law_wide (hr.mono (by decide)) (by rfl) (vm_own (i := 3) rfl (hr := (vm_cons (ve_op op_mulW ov_mulI ve_int (ve_op op_pow ov_pow ve_int ve_int)) vm_nil)))) (ve_op op_pow ov_pow ve_int ve_int)) va_nil)))))
      (vb_cons (vs_for PassesOwn.never rfl (vi_seq (ve_ix ix_seq ov_ix (ve_var (i := 4) rfl) ve_int (fun _ _ => rfl))) (vg_tup rfl (vgs_cons (vg_name (i := 6) sc_law.nd rfl (hP := pl_not (by decide))) (vgs_cons (vg_name (i := 7) sc_law.nd rfl (hP := pl_not (by decide))) vgs_nil))) (vb_one (vs_append (i := 5) rfl (he := (ve_op op_sub ov_sub (ve_op op_addAll ov_add (ve_var (i := 6) rfl) (ve_call D__law_pick (hr.mono (by decide)) (by rfl) (vm_own (i := 3) rfl (hr := (vm_cons ve_int vm_nil))))) ve_int)))))
      (vb_cons (vs_for PassesOwn.never rfl (vi_seq (ve_op op_addAll ov_add (ve_var (i := 5) rfl) (ve_slice (ve_var (i := 5) rfl) vo_none (vo_some ve_int)))) (vg_name (i := 8) sc_law.nd rfl (hP := pl_not (by decide))) (vb_one (vs_if (vt_not (vt_truth (ve_call D__law_same (hr.mono (by decide)) (by rfl) (vm_cons (ve_call D_charge (hr.mono (by decide)) (by rfl) (vm_cons (ve_var (i := 4) rfl) (vm_cons (ve_var (i := 8) rfl) vm_nil))) (vm_cons (ve_call D__law_fee (hr.mono (by decide)) (by rfl) (vm_cons (ve_var (i := 4) rfl) (vm_cons (ve_var (i := 8) rfl) vm_nil))) vm_nil))))) (vb_one (vs_ret ve_bl)) vb_nil)))
      (vb_cons (vs_set (i := 9) sc_law.nd rfl (hP := pl_not (by decide)) (he := (ve_callKw D_charge T.k_charge_delay_tariff (hr.mono (by decide)) (by rfl) (vk_cons (ve_get (i := 5) rfl (hx := ve_int) (hs := by intro _ _; rfl)) (vk_cons (ve_var (i := 4) rfl) vk_nil)))))
      (vb_one (vs_if (vt_bop (vw_or (vt_not (vt_truth (ve_call D__law_same (hr.mono (by decide)) (by rfl) (vm_cons (ve_var (i := 9) rfl) (vm_cons (ve_call D__law_fee (hr.mono (by decide)) (by rfl) (vm_cons (ve_var (i := 4) rfl) (vm_cons (ve_get (i := 5) rfl (hx := ve_int) (hs := by intro _ _; rfl)) vm_nil))) vm_nil))))) (vw_or1 (vt_cmp op_isNotA ov_isnotA (ve_call D_is_tariff (hr.mono (by decide)) (by rfl) (vm_cons (ve_var (i := 4) rfl) vm_nil)) ve_bl (nomark _))))) (vb_one (vs_ret ve_bl)) vb_nil)))))))))
      (vb_one (vs_ret ve_bl))))
def C_law : FF := fnV 10 (f_law C_draws C_a_plan C_wide C_pick C_same C_fee C_charge C_is_tariff)
theorem dd_law (T : Txt K mg) : Def Pg w K mg base "law" 6 ["script"] (spV ⟨[], tb⟩ 1 C_law) := ok_law T (dd__law_draws T) (dd__law_a_plan T) (dd__law_wide T) (dd__law_pick T) (dd__law_same T) (dd__law_fee T) (dd_charge T) (dd_is_tariff T)
end
/-! the head's facts -/
theorem bd_is_integer (kV doc pm : Value) (an : Option Addr) (cdv ct : Value) : ∀ us : List Value, us.length = (["value"] : List Str).length → bindArgs (PySem.W.fnOf "is_integer" "is_integer" (defArgs s_is_integer) (defBody s_is_integer) (defScope s_is_integer) .none kV doc pm an cdv ct) ⟨us, []⟩ = pure ((["value"] : List Str).zip us) := fun us hl => match us, hl with | [_], _ => rfl
theorem bd_is_sum (kV doc pm : Value) (an : Option Addr) (cdv ct : Value) : ∀ us : List Value, us.length = (["value"] : List Str).length → bindArgs (PySem.W.fnOf "is_sum" "is_sum" (defArgs s_is_sum) (defBody s_is_sum) (defScope s_is_sum) .none kV doc pm an cdv ct) ⟨us, []⟩ = pure ((["value"] : List Str).zip us) := fun us hl => match us, hl with | [_], _ => rfl
theorem bd_is_ascending (kV doc pm : Value) (an : Option Addr) (cdv ct : Value) : ∀ us : List Value, us.length = (["rows"] : List Str).length → bindArgs (PySem.W.fnOf "is_ascending" "is_ascending" (defArgs s_is_ascending) (defBody s_is_ascending) (defScope s_is_ascending) .none kV doc pm an cdv ct) ⟨us, []⟩ = pure ((["rows"] : List Str).zip us) := fun us hl => match us, hl with | [_], _ => rfl
theorem bd_is_integer_and_sum (kV doc pm : Value) (an : Option Addr) (cdv ct : Value) : ∀ us : List Value, us.length = (["value"] : List Str).length → bindArgs (PySem.W.fnOf "is_integer_and_sum" "is_integer_and_sum" (defArgs s_is_integer_and_sum) (defBody s_is_integer_and_sum) (defScope s_is_integer_and_sum) .none kV doc pm an cdv ct) ⟨us, []⟩ = pure ((["value"] : List Str).zip us) := fun us hl => match us, hl with | [_], _ => rfl
theorem bd_fits_tariff (kV doc pm : Value) (an : Option Addr) (cdv ct : Value) : ∀ us : List Value, us.length = (["value"] : List Str).length → bindArgs (PySem.W.fnOf "fits_tariff" "fits_tariff" (defArgs s_fits_tariff) (defBody s_fits_tariff) (defScope s_fits_tariff) .none kV doc pm an cdv ct) ⟨us, []⟩ = pure ((["value"] : List Str).zip us) := fun us hl => match us, hl with | [_], _ => rfl
theorem bd_check_day (kV doc pm : Value) (an : Option Addr) (cdv ct : Value) : ∀ us : List Value, us.length = (["day"] : List Str).length → bindArgs (PySem.W.fnOf "check_day" "check_day" (defArgs s_check_day) (defBody s_check_day) (defScope s_check_day) .none kV doc pm an cdv ct) ⟨us, []⟩ = pure ((["day"] : List Str).zip us) := fun us hl => match us, hl with | [_], _ => rfl
theorem bd_check_tariff (kV doc pm : Value) (an : Option Addr) (cdv ct : Value) : ∀ us : List Value, us.length = (["tariff"] : List Str).length → bindArgs (PySem.W.fnOf "check_tariff" "check_tariff" (defArgs s_check_tariff) (defBody s_check_tariff) (defScope s_check_tariff) .none kV doc pm an cdv ct) ⟨us, []⟩ = pure ((["tariff"] : List Str).zip us) := fun us hl => match us, hl with | [_], _ => rfl
theorem bd_is_tariff (kV doc pm : Value) (an : Option Addr) (cdv ct : Value) : ∀ us : List Value, us.length = (["value"] : List Str).length → bindArgs (PySem.W.fnOf "is_tariff" "is_tariff" (defArgs s_is_tariff) (defBody s_is_tariff) (defScope s_is_tariff) .none kV doc pm an cdv ct) ⟨us, []⟩ = pure ((["value"] : List Str).zip us) := fun us hl => match us, hl with | [_], _ => rfl
theorem bd_charge (kV doc pm : Value) (an : Option Addr) (cdv ct : Value) : ∀ us : List Value, us.length = (["tariff", "delay"] : List Str).length → bindArgs (PySem.W.fnOf "charge" "charge" (defArgs s_charge) (defBody s_charge) (defScope s_charge) .none kV doc pm an cdv ct) ⟨us, []⟩ = pure ((["tariff", "delay"] : List Str).zip us) := fun us hl => match us, hl with | [_, _], _ => rfl
theorem bd_charge_by (kV doc pm : Value) (an : Option Addr) (cdv ct : Value) : ∀ us : List Value, us.length = (["tariff", "delay"] : List Str).length → bindArgs (PySem.W.fnOf "charge_by" "charge_by" (defArgs s_charge_by) (defBody s_charge_by) (defScope s_charge_by) .none kV doc pm an cdv ct) ⟨us, []⟩ = pure ((["tariff", "delay"] : List Str).zip us) := fun us hl => match us, hl with | [_, _], _ => rfl
theorem bd__law_draws (kV doc pm : Value) (an : Option Addr) (cdv ct : Value) : ∀ us : List Value, us.length = (["cell"] : List Str).length → bindArgs (PySem.W.fnOf "_law_draws" "_law_draws" (defArgs s__law_draws) (defBody s__law_draws) (defScope s__law_draws) .none kV doc pm an cdv ct) ⟨us, []⟩ = pure ((["cell"] : List Str).zip us) := fun us hl => match us, hl with | [_], _ => rfl
theorem bd__law_pick (kV doc pm : Value) (an : Option Addr) (cdv ct : Value) : ∀ us : List Value, us.length = (["stock", "upto"] : List Str).length → bindArgs (PySem.W.fnOf "_law_pick" "_law_pick" (defArgs s__law_pick) (defBody s__law_pick) (defScope s__law_pick) .none kV doc pm an cdv ct) ⟨us, []⟩ = pure ((["stock", "upto"] : List Str).zip us) := fun us hl => match us, hl with | [_, _], _ => rfl
theorem bd__law_wide (kV doc pm : Value) (an : Option Addr) (cdv ct : Value) : ∀ us : List Value, us.length = (["stock", "upto"] : List Str).length → bindArgs (PySem.W.fnOf "_law_wide" "_law_wide" (defArgs s__law_wide) (defBody s__law_wide) (defScope s__law_wide) .none kV doc pm an cdv ct) ⟨us, []⟩ = pure ((["stock", "upto"] : List Str).zip us) := fun us hl => match us, hl with | [_, _], _ => rfl
theorem bd__law_fee (kV doc pm : Value) (an : Option Addr) (cdv ct : Value) : ∀ us : List Value, us.length = (["plan", "gap"] : List Str).length → bindArgs (PySem.W.fnOf "_law_fee" "_law_fee" (defArgs s__law_fee) (defBody s__law_fee) (defScope s__law_fee) .none kV doc pm an cdv ct) ⟨us, []⟩ = pure ((["plan", "gap"] : List Str).zip us) := fun us hl => match us, hl with | [_, _], _ => rfl
theorem bd__law_a_plan (kV doc pm : Value) (an : Option Addr) (cdv ct : Value) : ∀ us : List Value, us.length = (["stock", "many"] : List Str).length → bindArgs (PySem.W.fnOf "_law_a_plan" "_law_a_plan" (defArgs s__law_a_plan) (defBody s__law_a_plan) (defScope s__law_a_plan) .none kV doc pm an cdv ct) ⟨us, []⟩ = pure ((["stock", "many"] : List Str).zip us) := fun us hl => match us, hl with | [_, _], _ => rfl
theorem bd__law_same (kV doc pm : Value) (an : Option Addr) (cdv ct : Value) : ∀ us : List Value, us.length = (["back", "due"] : List Str).length → bindArgs (PySem.W.fnOf "_law_same" "_law_same" (defArgs s__law_same) (defBody s__law_same) (defScope s__law_same) .none kV doc pm an cdv ct) ⟨us, []⟩ = pure ((["back", "due"] : List Str).zip us) := fun us hl => match us, hl with | [_, _], _ => rfl
theorem bd_law (kV doc pm : Value) (an : Option Addr) (cdv ct : Value) : ∀ us : List Value, us.length = (["script"] : List Str).length → bindArgs (PySem.W.fnOf "law" "law" (defArgs s_law) (defBody s_law) (defScope s_law) .none kV doc pm an cdv ct) ⟨us, []⟩ = pure ((["script"] : List Str).zip us) := fun us hl => match us, hl with | [_], _ => rfl
theorem bk_charge_delay_tariff (kV doc pm : Value) (an : Option Addr) (cdv ct : Value) : ∀ ws : List Value, ws.length = (["delay", "tariff"] : List Str).length → bindArgs (PySem.W.fnOf "charge" "charge" (defArgs s_charge) (defBody s_charge) (defScope s_charge) .none kV doc pm an cdv ct) ⟨[], (["delay", "tariff"] : List Str).zip ws⟩ = pure ((["tariff", "delay"] : List Str).zip (permL [1, 0] ws)) := fun ws hl => match ws, hl with | [_, _], _ => rfl
end G

namespace VL
open PySem PySem.Spec PyProof.Rows L2 G
theorem log2_of {n k : Nat} (h : n < 2 ^ k) (hk : 0 < k) : n.log2 < k := by
  by_cases h0 : n = 0
  · subst h0
    simpa using hk
  · exact (Nat.log2_lt h0).mpr h
theorem mul_ok {i j : Int} {a b : Nat} (hi : i.natAbs < 2 ^ a) (hj : j.natAbs < 2 ^ b) (ha : 0 < a) (hb : 0 < b) (h : a + b ≤ 1000000) : decide (i.natAbs.log2 + j.natAbs.log2 < 1000000) = true := by
  have h1 := log2_of hi ha
  have h2 := log2_of hj hb
  exact decide_eq_true (by omega)
theorem mul_lt {i j : Int} {a b : Nat} (hi : i.natAbs < 2 ^ a) (hj : j.natAbs < 2 ^ b) : (i * j).natAbs < 2 ^ (a + b) := by
  rw [Int.natAbs_mul, Nat.pow_add]
  exact Nat.mul_lt_mul'' hi hj
theorem add_lt {i j : Int} {a b : Nat} (hi : i.natAbs < 2 ^ a) (hj : j.natAbs < 2 ^ b) (h : b ≤ a) : (i + j).natAbs < 2 ^ (a + 1) := by
  have h1 : 2 ^ b ≤ 2 ^ a := Nat.pow_le_pow_right (by decide) h
  rw [Nat.pow_succ]
  omega
theorem atI_nat {α : Type} {xs : List α} {r : Int} (h0 : 0 ≤ r) (h1 : r < xs.length) : ∃ d, L2.atI xs r = some d ∧ xs[r.toNat]? = some d := by
  unfold L2.atI L2.ixN
  rw [if_pos h0, if_pos (by omega)]
  have : r.toNat < xs.length := by omega
  exact ⟨xs[r.toNat], by simp [List.getElem?_eq_getElem this], List.getElem?_eq_getElem this⟩
theorem w_ixL {ds : List D} {r : Int} {QU : D → Prop} (h0 : 0 ≤ r) (h1 : r < ds.length) (q : ∀ d, ds[r.toNat]? = some d → QU d) : O1 (gIx (.list ds) (.int r)) QU := by
  obtain ⟨d, e1, e2⟩ := atI_nat h0 h1
  exact ⟨d, e1, q d e2⟩
theorem w_ixT {ds : List D} {r : Int} {QU : D → Prop} (h0 : 0 ≤ r) (h1 : r < ds.length) (q : ∀ d, ds[r.toNat]? = some d → QU d) : O1 (gIx (.tuple ds) (.int r)) QU := by
  obtain ⟨d, e1, e2⟩ := atI_nat h0 h1
  exact ⟨d, e1, q d e2⟩
/-- the stock behind at most n looks -/
def SB (n : Nat) (js : List D) : Prop := ∃ a b c : Int, js = [.int a, .int b, .int c] ∧ 0 ≤ a ∧ 0 ≤ b ∧ b < 999999999999999989 ∧ 0 ≤ c ∧ c ≤ n
theorem SB.mono {n m : Nat} {js : List D} (h : SB n js) (hn : n ≤ m) : SB m js := by
  obtain ⟨a, b, c, e, h1, h2, h3, h4, h5⟩ := h
  exact ⟨a, b, c, e, h1, h2, h3, h4, by omega⟩
theorem s_draws (c : Int) : O2 (C_draws [.va (.int c)]) fun ds en => en = [.va (.int c)] ∧ SB 0 ds := by
  refine w_fnL 1 ?_
  try simp only [List.length_cons, List.length_nil, Nat.reduceAdd, Nat.reduceSub, List.replicate_succ, List.replicate_zero, List.cons_append, List.nil_append]
  unfold f__law_draws
  refine st_ ?_
  refine ⟨rfl, _, _, _, rfl, ?_, Int.emod_nonneg _ (by decide), Int.emod_lt_of_pos _ (by decide), by decide, by decide⟩
  split <;> omega
theorem s_pick {n : Nat} {js : List D} {m : Int} (hj : SB n js) (hn : n ≤ 1000000000) (h1 : 1 ≤ m) (h2 : m < 10 ^ 60) :
    O2 (C_pick [.ow js, .va (.int m)]) fun d en => ∃ r js' s, d = .int r ∧ en = .ow js' :: s ∧ SB (n + 1) js' ∧ 0 ≤ r ∧ r < m := by
  obtain ⟨a, b, c, rfl, ha0, hb0, hb, hc0, hc⟩ := hj
  have hm : m.natAbs.log2 < 9000 := by
    refine log2_of (Nat.lt_of_lt_of_le (show m.natAbs < 10 ^ 60 by omega) (by decide +kernel)) (by decide)
  refine w_fn 5 ?_
  try simp only [List.length_cons, List.length_nil, Nat.reduceAdd, Nat.reduceSub, List.replicate_succ, List.replicate_zero, List.cons_append, List.nil_append]
  unfold f__law_pick
  refine st_ ?_
  refine ⟨fun ha => ?_, fun ha => ?_⟩
  · refine st_ ?_
    refine w_ii (decide_eq_true (by omega)) ?_
    refine st_ ?_
    refine w_ii (decide_eq_true ⟨by omega, by omega⟩) ?_
    refine st_ ?_
    exact ⟨_, _, _, rfl, rfl, ⟨_, _, _, rfl, Int.ediv_nonneg ha0 (by omega), hb0, hb, hc0, by omega⟩, Int.emod_nonneg _ (by omega), Int.emod_lt_of_pos _ (by omega)⟩
  · refine st_ ?_
    try simp only [List.set_cons_zero, List.set_cons_succ, List.map_cons, List.map_nil, mdSl, putBack, wipeE, permL, List.filterMap_cons, List.filterMap_nil, List.getElem?_cons_zero, List.getElem?_cons_succ]
    have ht0 : 0 ≤ c + 1 := by omega
    have ht1 : (c + 1).natAbs < 2 ^ 30 := by omega
    have hcn : c + 1 ≤ n + 1 := by omega
    generalize c + 1 = t at ht0 ht1 hcn
    refine w_ii (mul_ok (a := 14) (b := 30) (by decide) ht1 (by decide) (by decide) (by decide)) ?_
    refine st_ ?_
    have g1 : (9176 * t).natAbs < 2 ^ 44 := mul_lt (a := 14) (b := 30) (by decide) ht1
    refine w_ii (mul_ok (a := 44) (b := 30) g1 ht1 (by decide) (by decide) (by decide)) ?_
    refine st_ ?_
    have g2 : (9176 * t * t).natAbs < 2 ^ 74 := mul_lt (a := 44) (b := 30) g1 ht1
    have g3 : (b + 9176 * t * t + 31).natAbs < 2 ^ 76 := by omega
    generalize b + 9176 * t * t + 31 = u at g3
    try simp only [List.set_cons_zero, List.set_cons_succ, List.map_cons, List.map_nil, mdSl, putBack, wipeE, permL, List.filterMap_cons, List.filterMap_nil, List.getElem?_cons_zero, List.getElem?_cons_succ]
    refine w_ii (mul_ok (a := 16) (b := 30) (by decide) ht1 (by decide) (by decide) (by decide)) ?_
    refine st_ ?_
    have g4 : (b + 40503 * t).natAbs < 2 ^ 61 := by omega
    refine w_ii (mul_ok (a := 76) (b := 61) g3 g4 (by decide) (by decide) (by decide)) ?_
    refine st_ ?_
    have g5 : (u * (b + 40503 * t)).natAbs < 2 ^ 137 := mul_lt (a := 76) (b := 61) g3 g4
    have g6 : (u * (b + 40503 * t) + t).natAbs < 2 ^ 138 := add_lt (a := 137) (b := 30) g5 ht1 (by decide)
    generalize u * (b + 40503 * t) + t = v at g6
    try simp only [List.set_cons_zero, List.set_cons_succ, List.map_cons, List.map_nil, mdSl, putBack, wipeE, permL, List.filterMap_cons, List.filterMap_nil, List.getElem?_cons_zero, List.getElem?_cons_succ]
    refine w_ii (mul_ok (a := 138) (b := 138) g6 g6 (by decide) (by decide) (by decide)) ?_
    refine st_ ?_
    refine w_ii (mul_ok (a := 17) (b := 138) (by decide) g6 (by decide) (by decide) (by decide)) ?_
    refine st_ ?_
    have g7 := Int.emod_nonneg (v * v + 77731 * v) (show (1000000000000000003 : Int) ≠ 0 by decide)
    have g8 := Int.emod_lt_of_pos (v * v + 77731 * v) (show (0 : Int) < 1000000000000000003 by decide)
    generalize (v * v + 77731 * v) % 1000000000000000003 = x at g7 g8
    have g9 : (x / 4099).natAbs < 2 ^ 60 := by omega
    have g10 : 0 ≤ x / 4099 := by omega
    generalize x / 4099 = y at g9 g10
    try simp only [List.set_cons_zero, List.set_cons_succ, List.map_cons, List.map_nil, mdSl, putBack, wipeE, permL, List.filterMap_cons, List.filterMap_nil, List.getElem?_cons_zero, List.getElem?_cons_succ]
    refine w_ii (mul_ok (a := 2) (b := 30) (by decide) ht1 (by decide) (by decide) (by decide)) ?_
    refine st_ ?_
    have g11 : (y + 2 * t + 1).natAbs < 2 ^ 61 := by omega
    refine w_ii (mul_ok (a := 60) (b := 61) g9 g11 (by decide) (by decide) (by decide)) ?_
    refine st_ ?_
    refine w_ii (decide_eq_true (by omega)) ?_
    refine st_ ?_
    exact ⟨_, _, _, rfl, rfl, ⟨_, _, _, rfl, ha0, hb0, hb, ht0, by omega⟩, Int.emod_nonneg _ (by omega), Int.emod_lt_of_pos _ (by omega)⟩
end VL

namespace VL
open PySem PySem.Spec PyProof.Rows L2 G
theorem s_wide {n : Nat} {js : List D} {m : Int} (hj : SB n js) (hn : n ≤ 100000000) (h1 : 1 ≤ m) (h2 : m < 10 ^ 60) :
    O2 (C_wide [.ow js, .va (.int m)]) fun d en => ∃ r js' s, d = .int r ∧ en = .ow js' :: s ∧ SB (n + 5) js' ∧ 0 ≤ r ∧ r < m := by
  refine w_fn 4 ?_
  try simp only [List.length_cons, List.length_nil, Nat.reduceAdd, Nat.reduceSub, List.replicate_succ, List.replicate_zero, List.cons_append, List.nil_append]
  unfold f__law_wide
  refine st_ ?_
  refine ⟨fun hm => ?_, fun hm => ?_⟩
  · refine st_ ?_
    try simp only [List.set_cons_zero, List.set_cons_succ, List.map_cons, List.map_nil, mdSl, putBack, wipeE, permL, List.filterMap_cons, List.filterMap_nil, List.getElem?_cons_zero, List.getElem?_cons_succ]
    refine (s_pick hj (by omega) h1 h2).mono ?_
    rintro _ _ ⟨r, js', s, rfl, rfl, hJ, h0, h3⟩
    refine st_ ?_
    exact ⟨r, js', _, rfl, rfl, hJ.mono (by omega), h0, h3⟩
  · refine st_ ?_
    refine ⟨by decide, ?_⟩
    refine w_forD (fun i en => ∃ (js' : List D) (f : Int) (s3 : Sl), en = [.ow js', .va (.int m), .va (.int f), s3] ∧ SB (n + i) js' ∧ 0 ≤ f ∧ f.natAbs < 2 ^ (25 * (i + 1))) _ 0 _ ⟨js, 0, _, rfl, hj, by decide, by decide⟩ (fun i t en et hI => ?_) fun en hI => ?_
    · obtain ⟨js', f, s3, rfl, hJ, hf0, hf⟩ := hI
      have hi : i < 5 := by
        have := (List.getElem?_eq_some_iff.mp et).1
        simpa using this
      clear et
      refine w_turn ?_
      refine st_ ?_
      try simp only [List.set_cons_zero, List.set_cons_succ, List.map_cons, List.map_nil, mdSl, putBack, wipeE, permL, List.filterMap_cons, List.filterMap_nil, List.getElem?_cons_zero, List.getElem?_cons_succ]
      refine w_ii (mul_ok (a := 25 * (0 + i + 1)) (b := 24) hf (by decide) (by omega) (by decide) (by omega)) ?_
      refine st_ ?_
      try simp only [List.set_cons_zero, List.set_cons_succ, List.map_cons, List.map_nil, mdSl, putBack, wipeE, permL, List.filterMap_cons, List.filterMap_nil, List.getElem?_cons_zero, List.getElem?_cons_succ]
      refine (s_pick hJ (by omega) (by decide) (by decide)).mono ?_
      rintro _ _ ⟨r, js2, s, rfl, rfl, hJ2, h0, h3⟩
      refine st_ ?_
      refine ⟨_, rfl, js2, f * 10 ^ 7 + r, _, rfl, hJ2.mono (by omega), by omega, ?_⟩
      have g7 : (f * 10 ^ 7 + r).natAbs = f.natAbs * 10 ^ 7 + r.natAbs := by omega
      have h3' : r < 10000000 := h3
      have g8 : r.natAbs < 10 ^ 7 := by omega
      have g9 : 25 * (0 + i + 1 + 1) = 25 * (0 + i + 1) + 25 := by omega
      rw [g7, g9, Nat.pow_add]
      have g10 : 2 ^ 25 ≤ 2 ^ (25 * (0 + i + 1)) := Nat.pow_le_pow_right (by decide) (by omega)
      generalize 2 ^ (25 * (0 + i + 1)) = X at hf g10
      omega
    · obtain ⟨js', f, s3, rfl, hJ, hf0, hf⟩ := hI
      refine st_ ?_
      refine w_ii (decide_eq_true (by omega)) ?_
      refine st_ ?_
      exact ⟨_, _, _, rfl, rfl, hJ.mono (by simp), Int.emod_nonneg _ (by omega), Int.emod_lt_of_pos _ (by omega)⟩
/-! dicts with numbers as keys and values -/
def dI (mp : List (Int × Int)) : DKV := mp.map fun p => ([.inl p.1], .int p.2)
def putI (mp : List (Int × Int)) (k v : Int) : List (Int × Int) := if (mp.any fun p => decide (p.1 = k)) = true then mp.map (fun p => if p.1 = k then (p.1, v) else p) else mp ++ [(k, v)]
theorem sing_iff {a b : Int} : ([Sum.inl a] : List Key) = [Sum.inl b] ↔ a = b := by
  constructor
  · intro h
    injection h with h _
    injection h
  · rintro rfl
    rfl
theorem any_dI (k : Int) (mp : List (Int × Int)) : ((dI mp).any fun p => decide (p.1 = [.inl k])) = mp.any fun p => decide (p.1 = k) := by
  unfold dI
  rw [List.any_map]
  congr 1
  funext p
  simp only [Function.comp, sing_iff]
theorem putD_dI (mp : List (Int × Int)) (k v : Int) : putD (dI mp) [.inl k] (.int v) = dI (putI mp k v) := by
  unfold putD putI
  rw [any_dI]
  split
  · unfold dI
    rw [List.map_map, List.map_map]
    apply List.map_congr_left
    intro p _
    simp only [Function.comp, sing_iff]
    split <;> rfl
  · simp [dI]
theorem intKeys_dI : ∀ mp : List (Int × Int), intKeys (dI mp) = some (mp.map (·.1))
  | [] => rfl
  | p :: mp => by
    show (intKeys (dI mp)).map (p.1 :: ·) = _
    rw [intKeys_dI mp]
    rfl
theorem valD_dI {mp : List (Int × Int)} {k : Int} (h : k ∈ mp.map (·.1)) : ∃ v, valD (dI mp) [.inl k] = some (.int v) ∧ (k, v) ∈ mp := by
  induction mp with
  | nil => simp at h
  | cons p mp ih =>
    by_cases e : p.1 = k
    · refine ⟨p.2, ?_, by rw [← e]; exact List.mem_cons_self⟩
      simp [dI, valD, List.find?_cons, e]
    · rw [List.map_cons, List.mem_cons] at h
      obtain ⟨v, h1, h2⟩ := ih (h.resolve_left fun z => e z.symm)
      refine ⟨v, ?_, List.mem_cons_of_mem _ h2⟩
      rw [← h1]
      have e' : ¬ ([Sum.inl p.1] : List Key) = [Sum.inl k] := fun z => e (sing_iff.mp z)
      simp [dI, valD, List.find?_cons, e]
theorem putI_keys (mp : List (Int × Int)) (k v : Int) : (putI mp k v).map (·.1) = if k ∈ mp.map (·.1) then mp.map (·.1) else mp.map (·.1) ++ [k] := by
  have ha : (mp.any fun p => decide (p.1 = k)) = true ↔ k ∈ mp.map (·.1) := by simp [List.any_eq_true]
  unfold putI
  by_cases h : k ∈ mp.map (·.1)
  · rw [if_pos (ha.mpr h), if_pos h, List.map_map]
    apply List.map_congr_left
    intro p _
    simp only [Function.comp]
    split <;> rfl
  · rw [if_neg fun z => h (ha.mp z), if_neg h, List.map_append]
    rfl
theorem putI_nodup {mp : List (Int × Int)} {k v : Int} (h : (mp.map (·.1)).Nodup) : ((putI mp k v).map (·.1)).Nodup := by
  rw [putI_keys]
  split
  · exact h
  · rename_i hk
    rw [List.nodup_append]
    refine ⟨h, by simp, fun a ha b hb => ?_⟩
    rw [List.mem_singleton] at hb
    rintro rfl
    exact hk (hb ▸ ha)
theorem putI_mem {mp : List (Int × Int)} {k v : Int} {p : Int × Int} (h : p ∈ putI mp k v) : p ∈ mp ∨ p = (k, v) := by
  unfold putI at h
  split at h
  · rw [List.mem_map] at h
    obtain ⟨q, hq, rfl⟩ := h
    by_cases e : q.1 = k
    · rw [if_pos e, e]
      exact .inr rfl
    · rw [if_neg e]
      exact .inl hq
  · rw [List.mem_append, List.mem_singleton] at h
    exact h
theorem putI_len {mp : List (Int × Int)} {k v : Int} : (putI mp k v).length ≤ mp.length + 1 := by
  unfold putI
  split
  · simp
  · simp
/-! tariffs -/
def CorOk (p : Int × Int) : Prop := p.1.natAbs < 2 ^ 101 ∧ 1 ≤ p.2 ∧ p.2.natAbs < 2 ^ 101
structure PlanOk (sl : Int) (cs : List (Int × Int)) : Prop where
  asc : (cs.map (·.1)).Pairwise (· < ·)
  cor : ∀ p ∈ cs, CorOk p
  len : cs.length ≤ 20
  slo : sl.natAbs < 2 ^ 101
def planD (sl : Int) (cs : List (Int × Int)) : D := .tuple [.int sl, .tuple (cs.map pairD)]
theorem s_a_plan {n : Nat} {js : List D} (hj : SB n js) (hn : n ≤ 10000) :
    O2 (C_a_plan [.ow js, .va (.int 20)]) fun d en => ∃ sl cs js' s, d = planD sl cs ∧ en = .ow js' :: s ∧ SB (n + 300) js' ∧ PlanOk sl cs := by
  refine w_fn 8 ?_
  try simp only [List.length_cons, List.length_nil, Nat.reduceAdd, Nat.reduceSub, List.replicate_succ, List.replicate_zero, List.cons_append, List.nil_append]
  unfold f__law_a_plan
  refine st_ ?_
  try simp only [List.set_cons_zero, List.set_cons_succ, List.map_cons, List.map_nil, mdSl, putBack, wipeE, permL, List.filterMap_cons, List.filterMap_nil, List.getElem?_cons_zero, List.getElem?_cons_succ]
  refine (s_pick hj (by omega) (by decide) (by decide)).mono ?_
  rintro _ _ ⟨r, js1, s1, rfl, rfl, hJ1, h0, h3⟩
  refine st_ ?_
  refine w_ixL h0 (by simpa using h3) fun top et => ?_
  have hto : ∃ t : Int, top = .int t ∧ 3 ≤ t ∧ t ≤ 10 ^ 30 := by
    have m := List.mem_of_getElem? et
    simp only [List.mem_cons, List.not_mem_nil, or_false] at m
    rcases m with rfl | rfl | rfl | rfl <;> exact ⟨_, rfl, by decide, by decide⟩
  clear et
  obtain ⟨top, rfl, ht1, ht2⟩ := hto
  refine st_ ?_
  try simp only [List.set_cons_zero, List.set_cons_succ, List.map_cons, List.map_nil, mdSl, putBack, wipeE, permL, List.filterMap_cons, List.filterMap_nil, List.getElem?_cons_zero, List.getElem?_cons_succ]
  refine (s_pick hJ1 (by omega) (by decide) (by decide)).mono ?_
  rintro _ _ ⟨r, js2, s2, rfl, rfl, hJ2, h0, h3⟩
  refine st_ ?_
  refine w_ixL h0 (by simpa using h3) fun span et => ?_
  have hsp : ∃ t : Int, span = .int t ∧ 3 ≤ t ∧ t ≤ 10 ^ 30 := by
    have m := List.mem_of_getElem? et
    simp only [List.mem_cons, List.not_mem_nil, or_false] at m
    rcases m with rfl | rfl | rfl | rfl <;> exact ⟨_, rfl, by decide, by decide⟩
  clear et
  obtain ⟨span, rfl, hs1, hs2⟩ := hsp
  refine st_ ?_
  try simp only [List.set_cons_zero, List.set_cons_succ, List.map_cons, List.map_nil, mdSl, putBack, wipeE, permL, List.filterMap_cons, List.filterMap_nil, List.getElem?_cons_zero, List.getElem?_cons_succ]
  refine st_ ?_
  try simp only [List.set_cons_zero, List.set_cons_succ, List.map_cons, List.map_nil, mdSl, putBack, wipeE, permL, List.filterMap_cons, List.filterMap_nil, List.getElem?_cons_zero, List.getElem?_cons_succ]
  refine (s_pick hJ2 (by omega) (by decide) (by decide)).mono ?_
  rintro _ _ ⟨k, js3, s3, rfl, rfl, hJ3, hk0, hk1⟩
  refine st_ ?_
  refine ⟨⟨by omega, by omega⟩, ?_⟩
  try simp only [List.set_cons_zero, List.set_cons_succ, List.map_cons, List.map_nil, mdSl, putBack, wipeE, permL, List.filterMap_cons, List.filterMap_nil, List.getElem?_cons_zero, List.getElem?_cons_succ]
  have hdec : ((20 : Int) + 1) = 21 := rfl
  refine w_forD (fun i en => ∃ (js' : List D) (mp : List (Int × Int)) (s5 s6 s7 : Sl), en = [.ow js', .va (.int 20), .va (.int top), .va (.int span), .dc false (dI mp), s5, s6, s7] ∧ SB (n + 3 + 10 * i) js' ∧ (mp.map (·.1)).Nodup ∧ (∀ p ∈ mp, CorOk p) ∧ mp.length ≤ i) _ 0 _
    ⟨js3, [], _, _, _, rfl, hJ3.mono (by omega), by simp, by simp, by simp⟩ (fun i t en et hI => ?_) fun en hI => ?_
  · obtain ⟨js', mp, s5, s6, s7, rfl, hJ, hnd, hcor, hlen⟩ := hI
    have hi : i < 21 := by
      have := (List.getElem?_eq_some_iff.mp et).1
      rw [List.length_range] at this
      omega
    clear et
    refine w_turn ?_
    refine st_ ?_
    try simp only [List.set_cons_zero, List.set_cons_succ, List.map_cons, List.map_nil, mdSl, putBack, wipeE, permL, List.filterMap_cons, List.filterMap_nil, List.getElem?_cons_zero, List.getElem?_cons_succ]
    refine (s_wide hJ (by omega) (by omega) (by omega)).mono ?_
    rintro _ _ ⟨r, js4, s4, rfl, rfl, hJ4, h0, h3⟩
    refine st_ ?_
    try simp only [List.set_cons_zero, List.set_cons_succ, List.map_cons, List.map_nil, mdSl, putBack, wipeE, permL, List.filterMap_cons, List.filterMap_nil, List.getElem?_cons_zero, List.getElem?_cons_succ]
    refine w_ii (mul_ok (a := 2) (b := 101) (by decide) (by omega) (by decide) (by decide) (by decide)) ?_
    refine st_ ?_
    try simp only [List.set_cons_zero, List.set_cons_succ, List.map_cons, List.map_nil, mdSl, putBack, wipeE, permL, List.filterMap_cons, List.filterMap_nil, List.getElem?_cons_zero, List.getElem?_cons_succ]
    refine (s_wide hJ4 (by omega) (by omega) (by omega)).mono ?_
    rintro _ _ ⟨r2, js5, s5', rfl, rfl, hJ5, h02, h32⟩
    refine st_ ?_
    refine ⟨false, dI mp, [.inl (r2 - span + 1)], rfl, rfl, ?_, ?_⟩
    · rw [show (dI mp).length = mp.length by simp [dI]]
      exact Nat.lt_of_lt_of_le (show mp.length < 1000 by omega) (by decide)
    refine ⟨_, rfl, js5, putI mp (r2 - span + 1) (1 + r), _, _, _, by rw [← putD_dI]; rfl, hJ5.mono (by omega), putI_nodup hnd, fun p hp => ?_, by have := putI_len (mp := mp) (k := r2 - span + 1) (v := 1 + r); omega⟩
    rcases putI_mem hp with hp | rfl
    · exact hcor p hp
    · exact ⟨by show (r2 - span + 1).natAbs < _; omega, by show 1 ≤ 1 + r; omega, by show (1 + r).natAbs < _; omega⟩
  · obtain ⟨js', mp, s5, s6, s7, rfl, hJ, hnd, hcor, hlen⟩ := hI
    have hlen2 : mp.length ≤ 20 := by
      rw [List.length_range] at hlen
      omega
    rw [List.length_range] at hJ
    have hJ' : SB (n + 220) js' := hJ.mono (by omega)
    refine st_ ?_
    refine w_sortedDK (kvs := dI mp) (ns := mp.map (·.1)) rfl (intKeys_dI mp) ?_
    refine st_ ?_
    try simp only [List.set_cons_zero, List.set_cons_succ, List.map_cons, List.map_nil, mdSl, putBack, wipeE, permL, List.filterMap_cons, List.filterMap_nil, List.getElem?_cons_zero, List.getElem?_cons_succ]
    have hp := sortI_perm (mp.map (·.1))
    have hpw : (sortI (mp.map (·.1))).Pairwise (· < ·) := by
      have h1 := sortI_pw (mp.map (·.1))
      have h2 : (sortI (mp.map (·.1))).Nodup := hp.nodup_iff.mpr hnd
      exact (h1.and h2).imp fun h => by omega
    have hval : ∀ k ∈ sortI (mp.map (·.1)), ∃ v, valD (dI mp) [.inl k] = some (.int v) ∧ (k, v) ∈ mp := fun k hk => valD_dI (hp.mem_iff.mp hk)
    generalize hks : sortI (mp.map (·.1)) = ks at hp hpw hval
    have hl : ks.length = mp.length := by rw [hp.length_eq, List.length_map]
    let vf : Int → Int := fun k => match valD (dI mp) [.inl k] with
      | some (.int v) => v
      | _ => 0
    have hvf : ∀ k ∈ ks, valD (dI mp) [.inl k] = some (.int (vf k)) ∧ (k, vf k) ∈ mp := fun k hk => by
      obtain ⟨v, h1, h2⟩ := hval k hk
      have : vf k = v := by simp only [vf, h1]
      rw [this]
      exact ⟨h1, h2⟩
    refine w_compD (q := fun k => some (pairD (k, vf k))) (by rw [hl]; exact Nat.le_trans (show mp.length ≤ 1000 by omega) (by decide)) (fun k hk => ?_) ?_
    · refine st_ ?_
      try simp only [List.set_cons_zero, List.set_cons_succ, List.map_cons, List.map_nil, mdSl, putBack, wipeE, permL, List.filterMap_cons, List.filterMap_nil, List.getElem?_cons_zero, List.getElem?_cons_succ]
      refine ⟨false, dI mp, [.inl k], _, rfl, rfl, (hvf k hk).1, ?_⟩
      refine st_ ?_
      exact ⟨rfl, rfl⟩
    · refine st_ ?_
      try simp only [List.set_cons_zero, List.set_cons_succ, List.map_cons, List.map_nil, mdSl, putBack, wipeE, permL, List.filterMap_cons, List.filterMap_nil, List.getElem?_cons_zero, List.getElem?_cons_succ]
      refine w_ii (mul_ok (a := 2) (b := 101) (by decide) (by omega) (by decide) (by decide) (by decide)) ?_
      refine st_ ?_
      try simp only [List.set_cons_zero, List.set_cons_succ, List.map_cons, List.map_nil, mdSl, putBack, wipeE, permL, List.filterMap_cons, List.filterMap_nil, List.getElem?_cons_zero, List.getElem?_cons_succ]
      refine (s_wide hJ' (by omega) (by omega) (by omega)).mono ?_
      rintro _ _ ⟨r2, js5, s5', rfl, rfl, hJ5, h02, h32⟩
      refine st_ ?_
      refine ⟨r2 - top + 1, ks.map fun k => (k, vf k), js5, _, ?_, rfl, hJ5.mono (by omega), ⟨?_, ?_, ?_, by omega⟩⟩
      · unfold planD
        rw [List.map_map]
        congr 4
        rw [List.filterMap_eq_map']
        rfl
      · rw [List.map_map]
        have : ((fun x : Int × Int => x.1) ∘ fun k => (k, vf k)) = id := rfl
        rw [this, List.map_id]
        exact hpw
      · intro p hp
        rw [List.mem_map] at hp
        obtain ⟨k, hk, rfl⟩ := hp
        exact hcor _ (hvf k hk).2
      · rw [List.length_map, hl]
        exact hlen2
end VL

namespace VL
open PySem PySem.Spec PyProof.Rows L2 G
theorem s_is_integer (d : D) : O2 (C_is_integer [.va d]) fun r en => r = .bool (isiD d "int" && !isiD d "bool") := by
  refine w_fn 1 ?_
  try simp only [List.length_cons, List.length_nil, Nat.reduceAdd, Nat.reduceSub, List.replicate_succ, List.replicate_zero, List.cons_append, List.nil_append]
  unfold f_is_integer
  refine st_ ?_
  refine ⟨fun h => ?_, fun h => ?_⟩
  · refine st_ ?_
    show _ = _
    rw [h]
    rfl
  · show _ = _
    rw [h]
    rfl
theorem s_is_integer_int (i : Int) : O2 (C_is_integer [.va (.int i)]) fun r en => r = .bool true := (s_is_integer _).mono fun _ _ h => h
theorem s_is_sum {i : Int} (h : 1 ≤ i) : O2 (C_is_sum [.va (.int i)]) fun r en => r = .bool true := by
  refine w_fn 1 ?_
  try simp only [List.length_cons, List.length_nil, Nat.reduceAdd, Nat.reduceSub, List.replicate_succ, List.replicate_zero, List.cons_append, List.nil_append]
  unfold f_is_sum
  refine st_ ?_
  refine x_t (by simp [PyData.eqv, typD, isiD, isNone]; done) ?_
  refine st_ ?_
  refine x_t (by simp [PyData.eqv, typD, isiD, isNone]; done) ?_
  refine st_ ?_
  show _ = _
  rw [decide_eq_true h]
theorem all_bools {α : Type} (L : List α) : gAll [.list (L.map fun _ => PyData.bool true)] = some (.bool true) := by
  have : L.map (fun _ => PyData.bool true) = (L.map fun _ => true).map PyData.bool := by rw [List.map_map]; rfl
  rw [this]
  unfold gAll
  simp only [boolsOf_map]
  simp
theorem s_is_ascending {as : List Int} (h : as.Pairwise (· < ·)) (hl : as.length ≤ 1000) : O2 (C_is_ascending [.va (.list (as.map .int))]) fun r en => r = .bool true := by
  refine w_fn 2 ?_
  try simp only [List.length_cons, List.length_nil, Nat.reduceAdd, Nat.reduceSub, List.replicate_succ, List.replicate_zero, List.cons_append, List.nil_append]
  unfold f_is_ascending
  refine st_ ?_
  refine ⟨by rw [List.length_map]; omega, ?_⟩
  try simp only [List.set_cons_zero, List.set_cons_succ, List.map_cons, List.map_nil, mdSl, putBack, wipeE, permL, List.filterMap_cons, List.filterMap_nil, List.getElem?_cons_zero, List.getElem?_cons_succ]
  rw [List.length_map]
  unfold rangeD
  refine w_compD (q := fun _ => some (.bool true)) (by rw [List.length_range]; exact Nat.le_trans (show _ ≤ 1000 by omega) (by decide)) (fun k hk => ?_) ?_
  · rw [List.mem_range] at hk
    have hk' : k + 1 < as.length := by omega
    have hlt : as[k] < as[k + 1] := List.pairwise_iff_getElem.mp h k (k + 1) (by omega) hk' (by omega)
    refine st_ ?_
    try simp only [List.set_cons_zero, List.set_cons_succ, List.map_cons, List.map_nil, mdSl, putBack, wipeE, permL, List.filterMap_cons, List.filterMap_nil, List.getElem?_cons_zero, List.getElem?_cons_succ]
    refine w_ixL (by omega) (by rw [List.length_map]; omega) fun d e1 => ?_
    refine st_ ?_
    try simp only [List.set_cons_zero, List.set_cons_succ, List.map_cons, List.map_nil, mdSl, putBack, wipeE, permL, List.filterMap_cons, List.filterMap_nil, List.getElem?_cons_zero, List.getElem?_cons_succ]
    refine w_ixL (by omega) (by rw [List.length_map]; omega) fun d2 e2 => ?_
    have e1' : d = .int as[k] := by
      rw [List.getElem?_map, show (0 + (k : Int)).toNat = k by omega, List.getElem?_eq_getElem (by omega)] at e1
      exact (Option.some.inj e1).symm
    have e2' : d2 = .int as[k + 1] := by
      rw [List.getElem?_map, show (0 + (k : Int) + 1).toNat = k + 1 by omega, List.getElem?_eq_getElem hk'] at e2
      exact (Option.some.inj e2).symm
    subst e1' e2'
    refine st_ ?_
    refine ⟨?_, trivial⟩
    rw [decide_eq_true hlt]
  · rw [List.filterMap_eq_map']
    refine st_ ?_
    exact O1.of (all_bools _) rfl
theorem s_is_integer_and_sum {p : Int × Int} (h : 1 ≤ p.2) : O2 (C_is_integer_and_sum [.va (pairD p)]) fun r en => r = .bool true := by
  refine w_fn 1 ?_
  try simp only [List.length_cons, List.length_nil, Nat.reduceAdd, Nat.reduceSub, List.replicate_succ, List.replicate_zero, List.cons_append, List.nil_append]
  unfold f_is_integer_and_sum pairD
  refine st_ ?_
  refine x_t (by simp [PyData.eqv, typD, isiD, isNone]; done) ?_
  refine st_ ?_
  refine x_t (by simp [PyData.eqv, typD, isiD, isNone]; done) ?_
  refine st_ ?_
  try simp only [List.set_cons_zero, List.set_cons_succ, List.map_cons, List.map_nil, mdSl, putBack, wipeE, permL, List.filterMap_cons, List.filterMap_nil, List.getElem?_cons_zero, List.getElem?_cons_succ]
  refine (s_is_integer_int _).mono ?_
  rintro _ _ rfl
  refine st_ ?_
  try simp only [List.set_cons_zero, List.set_cons_succ, List.map_cons, List.map_nil, mdSl, putBack, wipeE, permL, List.filterMap_cons, List.filterMap_nil, List.getElem?_cons_zero, List.getElem?_cons_succ]
  refine (s_is_sum h).mono ?_
  rintro _ _ rfl
  rfl
theorem s_fits_tariff {sl : Int} {cs : List (Int × Int)} (h : PlanOk sl cs) : O2 (C_fits_tariff [.va (planD sl cs)]) fun r en => r = .bool true := by
  refine w_fn 4 ?_
  try simp only [List.length_cons, List.length_nil, Nat.reduceAdd, Nat.reduceSub, List.replicate_succ, List.replicate_zero, List.cons_append, List.nil_append]
  unfold f_fits_tariff planD
  refine st_ ?_
  refine x_f (by simp [PyData.eqv, typD, isiD, isNone]; done) ?_
  refine st_ ?_
  refine x_f (by simp [PyData.eqv, typD, isiD, isNone]; done) ?_
  refine st_ ?_
  try simp only [List.set_cons_zero, List.set_cons_succ, List.map_cons, List.map_nil, mdSl, putBack, wipeE, permL, List.filterMap_cons, List.filterMap_nil, List.getElem?_cons_zero, List.getElem?_cons_succ]
  refine (s_is_integer_int _).mono ?_
  rintro _ _ rfl
  refine st_ ?_
  refine x_f (by simp [PyData.eqv, typD, isiD, isNone]; done) ?_
  refine st_ ?_
  try simp only [List.set_cons_zero, List.set_cons_succ, List.map_cons, List.map_nil, mdSl, putBack, wipeE, permL, List.filterMap_cons, List.filterMap_nil, List.getElem?_cons_zero, List.getElem?_cons_succ]
  refine w_compD (q := fun _ => some (.bool true)) (by have := h.len; exact Nat.le_trans (show _ ≤ 1000 by omega) (by decide)) (fun p hp => ?_) ?_
  · refine st_ ?_
    try simp only [List.set_cons_zero, List.set_cons_succ, List.map_cons, List.map_nil, mdSl, putBack, wipeE, permL, List.filterMap_cons, List.filterMap_nil, List.getElem?_cons_zero, List.getElem?_cons_succ]
    refine (s_is_integer_and_sum (h.cor p hp).2.1).mono ?_
    rintro _ _ rfl
    refine st_ ?_
    exact ⟨rfl, by first | rfl | trivial⟩
  · rw [List.filterMap_eq_map']
    refine st_ ?_
    refine O1.of (all_bools _) ?_
    refine st_ ?_
    try simp only [List.set_cons_zero, List.set_cons_succ, List.map_cons, List.map_nil, mdSl, putBack, wipeE, permL, List.filterMap_cons, List.filterMap_nil, List.getElem?_cons_zero, List.getElem?_cons_succ]
    refine w_compD (e := pairD) (q := fun p => some (.int p.1)) (by have := h.len; exact Nat.le_trans (show _ ≤ 1000 by omega) (by decide)) (fun p hp => ?_) ?_
    · unfold pairD
      refine st_ ?_
      exact ⟨rfl, by first | rfl | trivial⟩
    · rw [List.filterMap_eq_map']
      refine st_ ?_
      try simp only [List.set_cons_zero, List.set_cons_succ, List.map_cons, List.map_nil, mdSl, putBack, wipeE, permL, List.filterMap_cons, List.filterMap_nil, List.getElem?_cons_zero, List.getElem?_cons_succ]
      have e : cs.map ((fun p => PyData.int p.1)) = (cs.map (·.1)).map PyData.int := by rw [List.map_map]; rfl
      rw [e]
      refine (s_is_ascending h.asc (by rw [List.length_map]; have := h.len; omega)).mono ?_
      rintro _ _ rfl
      rfl
/-- what a tariff charges -/
def corI (g : Int) (p : Int × Int) : Option Int := if p.1 < g then some (p.2 * (g - p.1)) else none
def feeI (sl : Int) (cs : List (Int × Int)) (g : Int) : Int := sl * g + (cs.filterMap (corI g)).sum
theorem s_charge_by {sl g : Int} {cs : List (Int × Int)} (h : PlanOk sl cs) (hg : g.natAbs < 2 ^ 104) : O2 (C_charge_by [.va (planD sl cs), .va (.int g)]) fun r en => r = .int (feeI sl cs g) := by
  refine w_fn 6 ?_
  try simp only [List.length_cons, List.length_nil, Nat.reduceAdd, Nat.reduceSub, List.replicate_succ, List.replicate_zero, List.cons_append, List.nil_append]
  unfold f_charge_by planD
  refine st_ ?_
  try simp only [List.set_cons_zero, List.set_cons_succ, List.map_cons, List.map_nil, mdSl, putBack, wipeE, permL, List.filterMap_cons, List.filterMap_nil, List.getElem?_cons_zero, List.getElem?_cons_succ]
  refine w_ii (mul_ok (a := 101) (b := 104) h.slo hg (by decide) (by decide) (by decide)) ?_
  refine st_ ?_
  try simp only [List.set_cons_zero, List.set_cons_succ, List.map_cons, List.map_nil, mdSl, putBack, wipeE, permL, List.filterMap_cons, List.filterMap_nil, List.getElem?_cons_zero, List.getElem?_cons_succ]
  refine w_compD (e := pairD) (q := fun p => (corI g p).map .int) (by have := h.len; exact Nat.le_trans (show _ ≤ 1000 by omega) (by decide)) (fun p hp => ?_) ?_
  · unfold pairD
    have hc := h.cor p hp
    refine st_ ?_
    try simp only [List.set_cons_zero, List.set_cons_succ, List.map_cons, List.map_nil, mdSl, putBack, wipeE, permL, List.filterMap_cons, List.filterMap_nil, List.getElem?_cons_zero, List.getElem?_cons_succ]
    refine ⟨fun hb => ?_, fun hb => ?_⟩
    · have hb' : ¬ p.1 < g := of_decide_eq_false hb
      exact ⟨by simp [corI, hb'], by first | rfl | trivial⟩
    · have hb' : p.1 < g := of_decide_eq_true hb
      have hc1 := hc.1
      refine st_ ?_
      refine w_ii (mul_ok (a := 101) (b := 105) hc.2.2 (by omega) (by decide) (by decide) (by decide)) ?_
      exact ⟨by simp [corI, hb'], by first | rfl | trivial⟩
  · have e : cs.filterMap (fun p => (corI g p).map PyData.int) = (cs.filterMap (corI g)).map .int := by
      rw [List.map_filterMap]
    rw [e]
    refine st_ ?_
    refine O1.of (x := gSum _) (by unfold gSum; simp only [intsOf_map]; rfl) ?_
    refine st_ ?_
    rfl
theorem s_fee {sl g : Int} {cs : List (Int × Int)} (h : PlanOk sl cs) (hg : g.natAbs < 2 ^ 104) : O2 (C_fee [.va (planD sl cs), .va (.int g)]) fun r en => r = .int (feeI sl cs g) := by
  refine w_fn 5 ?_
  try simp only [List.length_cons, List.length_nil, Nat.reduceAdd, Nat.reduceSub, List.replicate_succ, List.replicate_zero, List.cons_append, List.nil_append]
  unfold f__law_fee planD
  refine st_ ?_
  try simp only [List.set_cons_zero, List.set_cons_succ, List.map_cons, List.map_nil, mdSl, putBack, wipeE, permL, List.filterMap_cons, List.filterMap_nil, List.getElem?_cons_zero, List.getElem?_cons_succ]
  refine w_ii (mul_ok (a := 101) (b := 104) h.slo hg (by decide) (by decide) (by decide)) ?_
  refine st_ ?_
  try simp only [List.set_cons_zero, List.set_cons_succ, List.map_cons, List.map_nil, mdSl, putBack, wipeE, permL, List.filterMap_cons, List.filterMap_nil, List.getElem?_cons_zero, List.getElem?_cons_succ]
  refine w_forD (fun i en => ∃ (s3 s4 : Sl), en = [.va (.tuple [.int sl, .tuple (cs.map pairD)]), .va (.int g), .va (.int (sl * g + ((cs.take i).filterMap (corI g)).sum)), s3, s4]) _ 0 _ ⟨.un, .un, by simp⟩ (fun i p en et hI => ?_) fun en hI => ?_
  · obtain ⟨s3, s4, rfl⟩ := hI
    have hc := h.cor p (List.mem_of_getElem? et)
    have hi := (List.getElem?_eq_some_iff.mp et)
    obtain ⟨hi1, hi2⟩ := hi
    have etk : cs.take (0 + i + 1) = cs.take (0 + i) ++ [p] := by
      rw [Nat.zero_add, List.take_succ, et]
      rfl
    refine w_turn ?_
    unfold pairD
    refine st_ ?_
    try simp only [List.set_cons_zero, List.set_cons_succ, List.map_cons, List.map_nil, mdSl, putBack, wipeE, permL, List.filterMap_cons, List.filterMap_nil, List.getElem?_cons_zero, List.getElem?_cons_succ]
    refine ⟨fun hb => ?_, fun hb => ?_⟩
    · have hb' : p.1 < g := of_decide_eq_true hb
      have hc1 := hc.1
      refine st_ ?_
      refine w_ii (mul_ok (a := 101) (b := 105) hc.2.2 (by omega) (by decide) (by decide) (by decide)) ?_
      refine st_ ?_
      refine ⟨_, rfl, .va (.int p.1), .va (.int p.2), ?_⟩
      rw [etk, List.filterMap_append, List.sum_append]
      simp [corI, hb', Int.add_assoc]
    · have hb' : ¬ p.1 < g := of_decide_eq_false hb
      refine st_ ?_
      refine ⟨_, rfl, .va (.int p.1), .va (.int p.2), ?_⟩
      rw [etk, List.filterMap_append, List.sum_append]
      simp [corI, hb']
  · obtain ⟨s3, s4, rfl⟩ := hI
    refine st_ ?_
    show _ = _
    rw [Nat.zero_add, List.take_length]
    rfl
theorem s_charge {sl g : Int} {cs : List (Int × Int)} (h : PlanOk sl cs) (hg : g.natAbs < 2 ^ 104) : O2 (C_charge [.va (planD sl cs), .va (.int g)]) fun r en => r = .int (feeI sl cs g) := by
  refine w_fn 2 ?_
  try simp only [List.length_cons, List.length_nil, Nat.reduceAdd, Nat.reduceSub, List.replicate_succ, List.replicate_zero, List.cons_append, List.nil_append]
  unfold f_charge
  refine st_ ?_
  try simp only [List.set_cons_zero, List.set_cons_succ, List.map_cons, List.map_nil, mdSl, putBack, wipeE, permL, List.filterMap_cons, List.filterMap_nil, List.getElem?_cons_zero, List.getElem?_cons_succ]
  refine O2.mono (Q := fun r _ => True) ?_ ?_
  · refine w_fn 1 ?_
    try simp only [List.length_cons, List.length_nil, Nat.reduceAdd, Nat.reduceSub, List.replicate_succ, List.replicate_zero, List.cons_append, List.nil_append]
    unfold f_check_tariff
    refine st_ ?_
    try simp only [List.set_cons_zero, List.set_cons_succ, List.map_cons, List.map_nil, mdSl, putBack, wipeE, permL, List.filterMap_cons, List.filterMap_nil, List.getElem?_cons_zero, List.getElem?_cons_succ]
    refine (s_fits_tariff h).mono ?_
    rintro _ _ rfl
    refine st_ ?_
    trivial
  rintro _ _ -
  refine st_ ?_
  try simp only [List.set_cons_zero, List.set_cons_succ, List.map_cons, List.map_nil, mdSl, putBack, wipeE, permL, List.filterMap_cons, List.filterMap_nil, List.getElem?_cons_zero, List.getElem?_cons_succ]
  refine O2.mono (Q := fun r _ => True) ?_ ?_
  · refine w_fn 1 ?_
    try simp only [List.length_cons, List.length_nil, Nat.reduceAdd, Nat.reduceSub, List.replicate_succ, List.replicate_zero, List.cons_append, List.nil_append]
    unfold f_check_day
    refine st_ ?_
    try simp only [List.set_cons_zero, List.set_cons_succ, List.map_cons, List.map_nil, mdSl, putBack, wipeE, permL, List.filterMap_cons, List.filterMap_nil, List.getElem?_cons_zero, List.getElem?_cons_succ]
    refine (s_is_integer_int _).mono ?_
    rintro _ _ rfl
    refine st_ ?_
    trivial
  rintro _ _ -
  refine st_ ?_
  try simp only [List.set_cons_zero, List.set_cons_succ, List.map_cons, List.map_nil, mdSl, putBack, wipeE, permL, List.filterMap_cons, List.filterMap_nil, List.getElem?_cons_zero, List.getElem?_cons_succ]
  refine (s_charge_by h hg).mono ?_
  rintro _ _ rfl
  rfl
theorem s_is_tariff {sl : Int} {cs : List (Int × Int)} (h : PlanOk sl cs) : O2 (C_is_tariff [.va (planD sl cs)]) fun r en => r = .bool true := by
  refine w_fn 1 ?_
  try simp only [List.length_cons, List.length_nil, Nat.reduceAdd, Nat.reduceSub, List.replicate_succ, List.replicate_zero, List.cons_append, List.nil_append]
  unfold f_is_tariff
  refine st_ ?_
  try simp only [List.set_cons_zero, List.set_cons_succ, List.map_cons, List.map_nil, mdSl, putBack, wipeE, permL, List.filterMap_cons, List.filterMap_nil, List.getElem?_cons_zero, List.getElem?_cons_succ]
  refine (s_fits_tariff h).mono ?_
  rintro _ _ rfl
  rfl
theorem sum_lt {b : Nat} : ∀ (xs : List Int) (n : Nat), xs.length ≤ n → (∀ x ∈ xs, x.natAbs < 2 ^ b) → xs.sum.natAbs ≤ n * 2 ^ b
  | [], n, _, _ => by simp
  | x :: xs, 0, h, _ => by simp at h
  | x :: xs, n + 1, h, hx => by
    have h1 := sum_lt xs n (by simpa using h) fun y hy => hx y (List.mem_cons_of_mem _ hy)
    have h2 := hx x (by simp)
    rw [List.sum_cons, Nat.add_mul]
    generalize 2 ^ b = X at *
    generalize n * X = Y at *
    omega
theorem feeI_bound {sl g : Int} {cs : List (Int × Int)} (h : PlanOk sl cs) (hg : g.natAbs < 2 ^ 104) : (feeI sl cs g).natAbs.log2 < 1920 := by
  have h1 : (sl * g).natAbs < 2 ^ 205 := mul_lt (a := 101) (b := 104) h.slo hg
  have h2 : (cs.filterMap (corI g)).sum.natAbs ≤ 20 * 2 ^ 206 := by
    refine sum_lt _ 20 (Nat.le_trans (List.length_filterMap_le _ _) h.len) fun x hx => ?_
    rw [List.mem_filterMap] at hx
    obtain ⟨p, hp, e⟩ := hx
    unfold corI at e
    split at e <;> first | cases e | skip
    have hc := h.cor p hp
    have hc1 := hc.1
    exact mul_lt (a := 101) (b := 105) hc.2.2 (by omega)
  refine Nat.lt_trans (log2_of (k := 300) ?_ (by decide)) (by decide)
  unfold feeI
  have h3 : (2 : Nat) ^ 205 + 20 * 2 ^ 206 < 2 ^ 300 := by decide +kernel
  generalize (2 : Nat) ^ 205 = A at *
  generalize (2 : Nat) ^ 206 = B at *
  generalize (2 : Nat) ^ 300 = C at *
  omega
theorem eqv_str (x : Str) : PyData.eqv (.str x) (.str x) = true := by simp [PyData.eqv]
theorem strOk_ofString (s : String) : PyData.strOk (Str.ofString s) = true := by
  rw [Str.ofString_eq_toList]
  unfold PyData.strOk
  rw [Array.all_eq_true]
  intro i hi
  simp
  generalize (s.toList[i]'(by simpa using hi)) = c
  have := c.valid
  rcases this with h | h
  · have : c.toNat < 0xd800 := h
    omega
  · have : c.toNat < 0x110000 := h.2
    omega
theorem shaped_str {x : String} (h : (Str.ofString x).length ≤ sizeLine) : SeqAt.shaped (.str (Str.ofString x)) = true := by
  simp [SeqAt.shaped, PyData.canLay0, PyData.depth, h, strOk_ofString]
theorem s_same {a : Int} (h : a.natAbs.log2 < 1920) : O2 (C_same [.va (.int a), .va (.int a)]) fun r en => r = .bool true := by
  refine w_fn 2 ?_
  try simp only [List.length_cons, List.length_nil, Nat.reduceAdd, Nat.reduceSub, List.replicate_succ, List.replicate_zero, List.cons_append, List.nil_append]
  unfold f__law_same
  refine st_ ?_
  refine O1.of (x := gRepr _) (if_pos h) ?_
  refine st_ ?_
  refine O1.of (x := gRepr _) (if_pos h) ?_
  refine st_ ?_
  have hs : (Str.ofString (toString a)).length ≤ sizeLine := Nat.le_trans (PyProof.Rows.int_text_len_1921 h) (by decide)
  refine w_geq (shaped_str hs) (shaped_str hs) ?_
  refine st_ ?_
  show _ = _
  rw [eqv_str]
end VL

namespace VL
open PySem PySem.Spec PyProof.Rows L2 G
theorem cut_map (ns : List Int) (lo hi : Option Int) : ∃ ms : List Int, cutD (ns.map .int) lo hi = ms.map .int ∧ ms.length ≤ ns.length ∧ (∀ m ∈ ms, m ∈ ns) := by
  unfold cutD
  rw [← List.map_drop, ← List.map_take]
  refine ⟨_, rfl, ?_, fun m hm => List.mem_of_mem_drop (List.mem_of_mem_take hm)⟩
  rw [List.length_take, List.length_drop]
  omega
def GapOk (g : Int) : Prop := g.natAbs < 2 ^ 104
theorem s_law {ns : List Int} (hl : ns.length ≤ 63) : O2 (C_law [.va (.list (ns.map .int))]) fun r en => r = .bool true := by
  obtain ⟨ms, hms, hml, _⟩ := cut_map ns none (some 24)
  refine w_fn 10 ?_
  try simp only [List.length_cons, List.length_nil, Nat.reduceAdd, Nat.reduceSub, List.replicate_succ, List.replicate_zero, List.cons_append, List.nil_append]
  unfold f_law
  refine st_ ?_
  refine O1.of (x := sliceD _ _ _) (by show some (PyData.list _) = _; rw [hms]) ?_
  generalize (87956512302624623172088601172558782940379589863846638883097012422803920253 : Int) = great
  refine st_ ?_
  refine O1.of (x := gAdd _ _) (if_pos (by
    rw [List.length_map]
    simp only [List.length_cons, List.length_nil]
    exact Nat.le_trans (show _ ≤ 1001 by omega) (by decide))) ?_
  refine st_ ?_
  try simp only [List.set_cons_zero, List.set_cons_succ, List.map_cons, List.map_nil, mdSl, putBack, wipeE, permL, List.filterMap_cons, List.filterMap_nil, List.getElem?_cons_zero, List.getElem?_cons_succ]
  show O1 (forD _ ((great :: ms).map PyData.int) _) _
  refine w_forD (fun i en => ∃ (s2 s3 s4 s5 s6 s7 s8 s9 : Sl), en = [.va (.list (ns.map .int)), .va (.int great), s2, s3, s4, s5, s6, s7, s8, s9]) _ 0 _ ⟨_, _, _, _, _, _, _, _, rfl⟩ (fun i t en et hI => ?_) fun en hI => ?_
  · obtain ⟨s2, s3, s4, s5, s6, s7, s8, s9, rfl⟩ := hI
    clear et
    refine w_turn ?_
    refine st_ ?_
    try simp only [List.set_cons_zero, List.set_cons_succ, List.map_cons, List.map_nil, mdSl, putBack, wipeE, permL, List.filterMap_cons, List.filterMap_nil, List.getElem?_cons_zero, List.getElem?_cons_succ]
    refine (s_draws t).mono ?_
    rintro _ _ ⟨rfl, hJ⟩
    refine st_ ?_
    try simp only [List.set_cons_zero, List.set_cons_succ, List.map_cons, List.map_nil, mdSl, putBack, wipeE, permL, List.filterMap_cons, List.filterMap_nil, List.getElem?_cons_zero, List.getElem?_cons_succ]
    refine st_ ?_
    try simp only [List.set_cons_zero, List.set_cons_succ, List.map_cons, List.map_nil, mdSl, putBack, wipeE, permL, List.filterMap_cons, List.filterMap_nil, List.getElem?_cons_zero, List.getElem?_cons_succ]
    refine (s_a_plan hJ (by decide)).mono ?_
    rintro _ _ ⟨sl, cs, js1, x1, rfl, rfl, hJ1, hP⟩
    refine st_ ?_
    try simp only [List.set_cons_zero, List.set_cons_succ, List.map_cons, List.map_nil, mdSl, putBack, wipeE, permL, List.filterMap_cons, List.filterMap_nil, List.getElem?_cons_zero, List.getElem?_cons_succ]
    refine (s_pick hJ1 (by decide) (by decide) (by decide)).mono ?_
    rintro _ _ ⟨r1, js2, x2, rfl, rfl, hJ2, h10, h11⟩
    refine st_ ?_
    try simp only [List.set_cons_zero, List.set_cons_succ, List.map_cons, List.map_nil, mdSl, putBack, wipeE, permL, List.filterMap_cons, List.filterMap_nil, List.getElem?_cons_zero, List.getElem?_cons_succ]
    refine st_ ?_
    try simp only [List.set_cons_zero, List.set_cons_succ, List.map_cons, List.map_nil, mdSl, putBack, wipeE, permL, List.filterMap_cons, List.filterMap_nil, List.getElem?_cons_zero, List.getElem?_cons_succ]
    refine (s_wide hJ2 (by decide) (by decide) (by decide)).mono ?_
    rintro _ _ ⟨r2, js3, x3, rfl, rfl, hJ3, h20, h21⟩
    have hlen := hP.len
    have hJ3' : SB (1000 + 0) js3 := hJ3.mono (by decide)
    clear hJ hJ1 hJ2 hJ3
    have h22 : r2 < 2 * 10 ^ 30 := h21
    clear h21
    refine sti_ ?_
    try simp only [List.set_cons_zero, List.set_cons_succ, List.map_cons, List.map_nil, mdSl, putBack, wipeE, permL, List.filterMap_cons, List.filterMap_nil, List.getElem?_cons_zero, List.getElem?_cons_succ]
    unfold planD
    refine st_ ?_
    try simp only [List.set_cons_zero, List.set_cons_succ, List.map_cons, List.map_nil, mdSl, putBack, wipeE, permL, List.filterMap_cons, List.filterMap_nil, List.getElem?_cons_zero, List.getElem?_cons_succ]
    have hg0 : ∀ g ∈ [r1 - 4, r2 - 10 ^ Int.toNat 30], GapOk g := fun g hg => by
      have e30 : (10 : Int) ^ Int.toNat 30 = 1000000000000000000000000000000 := by decide
      rw [e30] at hg
      simp only [List.mem_cons, List.not_mem_nil, or_false] at hg
      unfold GapOk
      rcases hg with rfl | rfl <;> omega
    rw [show [PyData.int (r1 - 4), PyData.int (r2 - 10 ^ Int.toNat 30)] = [r1 - 4, r2 - 10 ^ Int.toNat 30].map PyData.int from rfl]
    refine w_forD (fun i en => ∃ (gs : List Int) (js : List D) (s6 s7 : Sl), en = [.va (.list (ns.map .int)), .va (.int great), .va (.int t), .ow js, .va (.tuple [.int sl, .tuple (cs.map pairD)]), .ow (gs.map .int), s6, s7, s8, s9] ∧ SB (1000 + i) js ∧ gs.length = 2 + i ∧ ∀ g ∈ gs, GapOk g) _ 0 _ ⟨_, js3, _, _, rfl, hJ3', rfl, hg0⟩ (fun i p en et hI => ?_) fun en hI => ?_
    · obtain ⟨gs, js, s6, s7, rfl, hJ, hgl, hgs⟩ := hI
      have hc := hP.cor p (List.mem_of_getElem? et)
      have hi := (List.getElem?_eq_some_iff.mp et).1
      have hc1 := hc.1
      refine w_turn ?_
      unfold pairD
      refine st_ ?_
      try simp only [List.set_cons_zero, List.set_cons_succ, List.map_cons, List.map_nil, mdSl, putBack, wipeE, permL, List.filterMap_cons, List.filterMap_nil, List.getElem?_cons_zero, List.getElem?_cons_succ]
      refine (s_pick hJ (by omega) (by decide) (by decide)).mono ?_
      rintro _ _ ⟨r, js', x', rfl, rfl, hJ', h0, h3⟩
      refine st_ ?_
      try simp only [List.set_cons_zero, List.set_cons_succ, List.map_cons, List.map_nil, mdSl, putBack, wipeE, permL, List.filterMap_cons, List.filterMap_nil, List.getElem?_cons_zero, List.getElem?_cons_succ]
      refine ⟨by rw [List.length_map, hgl]; exact Nat.lt_of_lt_of_le (show 2 + (0 + i) < 1001 by omega) (by decide), ?_⟩
      refine ⟨_, rfl, gs ++ [p.1 + r - 1], js', .va (.int p.1), .va (.int p.2), by rw [List.map_append]; rfl, hJ'.mono (by omega), by rw [List.length_append, hgl]; simp only [List.length_cons, List.length_nil]; omega, fun g hg => ?_⟩
      rw [List.mem_append, List.mem_singleton] at hg
      rcases hg with hg | rfl
      · exact hgs g hg
      · unfold GapOk
        omega
    · obtain ⟨gs, js, s6, s7, rfl, hJ, hgl, hgs⟩ := hI
      obtain ⟨ms2, hms2, hml2, hmm2⟩ := cut_map gs none (some 3)
      refine st_ ?_
      try simp only [List.set_cons_zero, List.set_cons_succ, List.map_cons, List.map_nil, mdSl, putBack, wipeE, permL, List.filterMap_cons, List.filterMap_nil, List.getElem?_cons_zero, List.getElem?_cons_succ]
      refine st_ ?_
      refine O1.of (x := sliceD _ _ _) (by show some (PyData.list _) = _; rw [hms2]) ?_
      refine st_ ?_
      refine O1.of (x := gAdd _ _) (if_pos (by
        rw [List.length_map, List.length_map]
        exact Nat.le_trans (show _ ≤ 1001 by omega) (by decide))) ?_
      refine st_ ?_
      try simp only [List.set_cons_zero, List.set_cons_succ, List.map_cons, List.map_nil, mdSl, putBack, wipeE, permL, List.filterMap_cons, List.filterMap_nil, List.getElem?_cons_zero, List.getElem?_cons_succ]
      rw [← List.map_append]
      have hall : ∀ g ∈ gs ++ ms2, GapOk g := fun g hg => by
        rw [List.mem_append] at hg
        rcases hg with hg | hg
        · exact hgs g hg
        · exact hgs g (hmm2 g hg)
      have hPd : PyData.tuple [.int sl, .tuple (cs.map pairD)] = planD sl cs := rfl
      rw [hPd]
      refine w_forD (fun i en => ∃ (s8 : Sl), en = [.va (.list (ns.map .int)), .va (.int great), .va (.int t), .ow js, .va (planD sl cs), .va (.list (gs.map .int)), s6, s7, s8, s9]) _ 0 _ ⟨_, rfl⟩ (fun i g en et hI => ?_) fun en hI => ?_
      · obtain ⟨s8, rfl⟩ := hI
        have hg := hall g (List.mem_of_getElem? et)
        clear et
        refine w_turn ?_
        refine st_ ?_
        try simp only [List.set_cons_zero, List.set_cons_succ, List.map_cons, List.map_nil, mdSl, putBack, wipeE, permL, List.filterMap_cons, List.filterMap_nil, List.getElem?_cons_zero, List.getElem?_cons_succ]
        refine (s_charge hP hg).mono ?_
        rintro _ _ rfl
        refine st_ ?_
        try simp only [List.set_cons_zero, List.set_cons_succ, List.map_cons, List.map_nil, mdSl, putBack, wipeE, permL, List.filterMap_cons, List.filterMap_nil, List.getElem?_cons_zero, List.getElem?_cons_succ]
        refine (s_fee hP hg).mono ?_
        rintro _ _ rfl
        refine st_ ?_
        try simp only [List.set_cons_zero, List.set_cons_succ, List.map_cons, List.map_nil, mdSl, putBack, wipeE, permL, List.filterMap_cons, List.filterMap_nil, List.getElem?_cons_zero, List.getElem?_cons_succ]
        refine (s_same (feeI_bound hP hg)).mono ?_
        rintro _ _ rfl
        refine st_ ?_
        exact ⟨_, rfl, _, rfl⟩
      · obtain ⟨s8, rfl⟩ := hI
        have h1 : 1 < gs.length := by omega
        have hg := hgs gs[1] (List.getElem_mem h1)
        have hix : ∀ (d : D), (gs.map PyData.int)[(1 : Int).toNat]? = some d → d = .int gs[1] := fun d e => by
          rw [List.getElem?_map, show (1 : Int).toNat = 1 from rfl, List.getElem?_eq_getElem h1] at e
          exact (Option.some.inj e).symm
        refine st_ ?_
        refine w_ixL (by decide) (by rw [List.length_map]; omega) fun d e1 => ?_
        have := hix d e1
        subst this
        refine st_ ?_
        try simp only [List.set_cons_zero, List.set_cons_succ, List.map_cons, List.map_nil, mdSl, putBack, wipeE, permL, List.filterMap_cons, List.filterMap_nil, List.getElem?_cons_zero, List.getElem?_cons_succ]
        refine st_ ?_
        try simp only [List.set_cons_zero, List.set_cons_succ, List.map_cons, List.map_nil, mdSl, putBack, wipeE, permL, List.filterMap_cons, List.filterMap_nil, List.getElem?_cons_zero, List.getElem?_cons_succ]
        refine (s_charge hP hg).mono ?_
        rintro _ _ rfl
        refine st_ ?_
        try simp only [List.set_cons_zero, List.set_cons_succ, List.map_cons, List.map_nil, mdSl, putBack, wipeE, permL, List.filterMap_cons, List.filterMap_nil, List.getElem?_cons_zero, List.getElem?_cons_succ]
        refine st_ ?_
        try simp only [List.set_cons_zero, List.set_cons_succ, List.map_cons, List.map_nil, mdSl, putBack, wipeE, permL, List.filterMap_cons, List.filterMap_nil, List.getElem?_cons_zero, List.getElem?_cons_succ]
        refine w_ixL (by decide) (by rw [List.length_map]; omega) fun d e1 => ?_
        have := hix d e1
        subst this
        refine st_ ?_
        try simp only [List.set_cons_zero, List.set_cons_succ, List.map_cons, List.map_nil, mdSl, putBack, wipeE, permL, List.filterMap_cons, List.filterMap_nil, List.getElem?_cons_zero, List.getElem?_cons_succ]
        refine (s_fee hP hg).mono ?_
        rintro _ _ rfl
        refine st_ ?_
        try simp only [List.set_cons_zero, List.set_cons_succ, List.map_cons, List.map_nil, mdSl, putBack, wipeE, permL, List.filterMap_cons, List.filterMap_nil, List.getElem?_cons_zero, List.getElem?_cons_succ]
        refine (s_same (feeI_bound hP hg)).mono ?_
        rintro _ _ rfl
        refine st_ ?_
        try simp only [List.set_cons_zero, List.set_cons_succ, List.map_cons, List.map_nil, mdSl, putBack, wipeE, permL, List.filterMap_cons, List.filterMap_nil, List.getElem?_cons_zero, List.getElem?_cons_succ]
        refine (s_is_tariff hP).mono ?_
        rintro _ _ rfl
        refine st_ ?_
        exact ⟨_, rfl, _, _, _, _, _, _, _, _, rfl⟩
  · obtain ⟨s2, s3, s4, s5, s6, s7, s8, s9, rfl⟩ := hI
    refine st_ ?_
    rfl
end VL

open PySem PySem.W in
open PyProof.Rows in
set_option maxRecDepth 100000 in
set_option maxHeartbeats 0 in
theorem PySem.Challenge.cw_oldestbills_k20_charge_holds : PySem.Challenge.rw_oldestbills_k20_charge.Holds := by
  w_on
  o_law
  k_head
  (case hw => w_witness2)
  k_fill
  refine VL.law_walk (l := PySem.Challenge.rw_oldestbills_k20_charge) (F := G.C_law) (k := 6) (fun ns hl => VL.s_law (by omega)) rfl rfl ⟨rfl, by decide, by decide⟩ (fun w h Y => PySem.W.kIn_of Y) (fun w => by kernel_rfl) ?G
  case G =>
    intro w mg fa h KX GN hmg
    refine (fun (T : G.Txt _ mg) => VL.law_fn (st := G.s_law) T.d_law hmg (fun _ _ _ _ _ _ _ => rfl) fun base => G.dd_law (tb := []) T) ?T
    case T =>
      refine' ⟨?z_all, ?z_bool, ?z_int, ?z_isinstance, ?z_len, ?z_max, ?z_range, ?z_repr, ?z_sorted, ?z_sum, ?z_tuple, ?z_type, ?d_is_integer, ?d_is_sum, ?d_is_ascending, ?d_is_integer_and_sum, ?d_fits_tariff, ?d_check_day, ?d_check_tariff, ?d_is_tariff, ?d_charge, ?d_charge_by, ?d__law_draws, ?d__law_pick, ?d__law_wide, ?d__law_fee, ?d__law_a_plan, ?d__law_same, ?d_law, ?k_charge_delay_tariff⟩
      (case z_all => refine' PySem.W.mg_none_of KX GN ?z; (case z => k_is))
      (case z_bool => refine' PySem.W.mg_none_of KX GN ?z; (case z => k_is))
      (case z_int => refine' PySem.W.mg_none_of KX GN ?z; (case z => k_is))
      (case z_isinstance => refine' PySem.W.mg_none_of KX GN ?z; (case z => k_is))
      (case z_len => refine' PySem.W.mg_none_of KX GN ?z; (case z => k_is))
      (case z_max => refine' PySem.W.mg_none_of KX GN ?z; (case z => k_is))
      (case z_range => refine' PySem.W.mg_none_of KX GN ?z; (case z => k_is))
      (case z_repr => refine' PySem.W.mg_none_of KX GN ?z; (case z => k_is))
      (case z_sorted => refine' PySem.W.mg_none_of KX GN ?z; (case z => k_is))
      (case z_sum => refine' PySem.W.mg_none_of KX GN ?z; (case z => k_is))
      (case z_tuple => refine' PySem.W.mg_none_of KX GN ?z; (case z => k_is))
      (case z_type => refine' PySem.W.mg_none_of KX GN ?z; (case z => k_is))
      (case d_is_integer => refine' VL.nmd_mk KX GN ?a ?l ?c ?k G.bd_is_integer; (case a => k_is); (case l => k_is); (case c => k_is); (case k => k_is))
      (case d_is_sum => refine' VL.nmd_mk KX GN ?a ?l ?c ?k G.bd_is_sum; (case a => k_is); (case l => k_is); (case c => k_is); (case k => k_is))
      (case d_is_ascending => refine' VL.nmd_mk KX GN ?a ?l ?c ?k G.bd_is_ascending; (case a => k_is); (case l => k_is); (case c => k_is); (case k => k_is))
      (case d_is_integer_and_sum => refine' VL.nmd_mk KX GN ?a ?l ?c ?k G.bd_is_integer_and_sum; (case a => k_is); (case l => k_is); (case c => k_is); (case k => k_is))
      (case d_fits_tariff => refine' VL.nmd_mk KX GN ?a ?l ?c ?k G.bd_fits_tariff; (case a => k_is); (case l => k_is); (case c => k_is); (case k => k_is))
      (case d_check_day => refine' VL.nmd_mk KX GN ?a ?l ?c ?k G.bd_check_day; (case a => k_is); (case l => k_is); (case c => k_is); (case k => k_is))
      (case d_check_tariff => refine' VL.nmd_mk KX GN ?a ?l ?c ?k G.bd_check_tariff; (case a => k_is); (case l => k_is); (case c => k_is); (case k => k_is))
      (case d_is_tariff => refine' VL.nmd_mk KX GN ?a ?l ?c ?k G.bd_is_tariff; (case a => k_is); (case l => k_is); (case c => k_is); (case k => k_is))
      (case d_charge => refine' VL.nmd_mk KX GN ?a ?l ?c ?k G.bd_charge; (case a => k_is); (case l => k_is); (case c => k_is); (case k => k_is))
      (case d_charge_by => refine' VL.nmd_mk KX GN ?a ?l ?c ?k G.bd_charge_by; (case a => k_is); (case l => k_is); (case c => k_is); (case k => k_is))
      (case d__law_draws => refine' VL.nmd_mk KX GN ?a ?l ?c ?k G.bd__law_draws; (case a => k_is); (case l => k_is); (case c => k_is); (case k => k_is))
      (case d__law_pick => refine' VL.nmd_mk KX GN ?a ?l ?c ?k G.bd__law_pick; (case a => k_is); (case l => k_is); (case c => k_is); (case k => k_is))
      (case d__law_wide => refine' VL.nmd_mk KX GN ?a ?l ?c ?k G.bd__law_wide; (case a => k_is); (case l => k_is); (case c => k_is); (case k => k_is))
      (case d__law_fee => refine' VL.nmd_mk KX GN ?a ?l ?c ?k G.bd__law_fee; (case a => k_is); (case l => k_is); (case c => k_is); (case k => k_is))
      (case d__law_a_plan => refine' VL.nmd_mk KX GN ?a ?l ?c ?k G.bd__law_a_plan; (case a => k_is); (case l => k_is); (case c => k_is); (case k => k_is))
      (case d__law_same => refine' VL.nmd_mk KX GN ?a ?l ?c ?k G.bd__law_same; (case a => k_is); (case l => k_is); (case c => k_is); (case k => k_is))
      (case d_law => refine' VL.nmd_mk KX GN ?a ?l ?c ?k G.bd_law; (case a => k_is); (case l => k_is); (case c => k_is); (case k => k_is))
      (case k_charge_delay_tariff => refine' VL.kwd_of (VL.nmd_mk KX GN ?a ?l ?c ?k G.bd_charge) G.bk_charge_delay_tariff; (case a => k_is); (case l => k_is); (case c => k_is); (case k => k_is))

