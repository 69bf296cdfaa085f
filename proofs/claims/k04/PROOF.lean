import PyProof.Rows.All
import Wide.All
import OpenK.AllK
import Wide.FinOn
import HandS.ForMost
import HandS.IsInst
import HandS.Wide
import HandS.SortRule
import HandS.SortInts
import HandS.TupSets
import HandS.Zip
import HandS.Conv
import HandS.Flow
import HandS.Lambda
import HandS.Keys
import HandS.More
import PyProof.TypeEq
import HandS.MakeKwOnly
import HandS.DictTup
import HandS.DictComp
import HandS.RaiseMore
import HandS.Style
import KE.SortData
import PySem.Challenge.RW_oldestbills_k04_the_line
set_option Elab.async false
set_option linter.all false
set_option maxRecDepth 100000
set_option maxHeartbeats 4000000
namespace VL
open PySem PySem.Spec
open PyProof.Rows L2

abbrev D := PyData
/-- not a table of code objects (a lambda's making writes into one) -/
def NT (o : HO) : Prop := ∀ ps, o ≠ .tbl ps
/-- a def's places: its lists and dicts that are written; the tables that its lambdas are noted in -/
structure Pl where
  ps : List Nat
  tb : List (Addr × Str)
instance : Membership Nat Pl := ⟨fun P i => i ∈ P.ps⟩
instance {i : Nat} {P : Pl} : Decidable (i ∈ P) := inferInstanceAs (Decidable (i ∈ P.ps))

/-! ### data in the heap; B: the addresses that may not be reached -/
mutual
inductive Rp (H : Hp) (B : Addr → Prop) : D → V → Prop
  | non : Rp H B .none .non
  | bl (b : Bool) : Rp H B (.bool b) (.bl b)
  | int (i : Int) : Rp H B (.int i) (.int i)
  | str (x : Str) : Rp H B (.str x) (.str x)
  | lst {a : Addr} {xs : List V} {ds : List D} : ¬ B a → Rd H a (.lst xs) → RpL H B ds xs → Rp H B (.list ds) (.ref a)
  | tup {a : Addr} {xs : List V} {ds : List D} : ¬ B a → H a = some (.tup xs) → RpL H B ds xs → Rp H B (.tuple ds) (.ref a)
inductive RpL (H : Hp) (B : Addr → Prop) : List D → List V → Prop
  | nil : RpL H B [] []
  | cons {d : D} {v : V} {ds : List D} {vs : List V} : Rp H B d v → RpL H B ds vs → RpL H B (d :: ds) (v :: vs)
end

section
variable {H H' : Hp} {B B' : Addr → Prop}
theorem Rd.ne {a : Addr} {u : HO} (r : Rd H a u) : H a ≠ none := by
  rcases r with r | ⟨o, r⟩ <;> (rw [r]; exact fun z => nomatch z)
theorem Rd.keep {a : Addr} {u : HO} (r : Rd H a u) (k : ∀ o, H a = some o → NT o → H' a = some o) (nt : NT u := by intro _ z; exact nomatch z) : Rd H' a u := by
  rcases r with r | ⟨o, r⟩
  · exact .inl (k _ r nt)
  · exact .inr ⟨o, k _ r fun _ z => nomatch z⟩
mutual
theorem Rp.move (k : ∀ b o, H b = some o → NT o → ¬ B b → H' b = some o ∧ ¬ B' b) : ∀ {d : D} {v : V}, Rp H B d v → Rp H' B' d v
  | _, _, .non => .non
  | _, _, .bl b => .bl b
  | _, _, .int i => .int i
  | _, _, .str x => .str x
  | _, _, .lst (a := a) (xs := xs) nb r rs => by
    have h : ¬ B' a := by
      rcases r with r | ⟨o, r⟩
      · exact (k _ _ r (fun _ z => nomatch z) nb).2
      · exact (k _ _ r (fun _ z => nomatch z) nb).2
    exact .lst h (Rd.keep r fun o e t => (k _ _ e t nb).1) (RpL.move k rs)
  | _, _, .tup nb e rs => .tup (k _ _ e (fun _ z => nomatch z) nb).2 (k _ _ e (fun _ z => nomatch z) nb).1 (RpL.move k rs)
theorem RpL.move (k : ∀ b o, H b = some o → NT o → ¬ B b → H' b = some o ∧ ¬ B' b) : ∀ {ds : List D} {vs : List V}, RpL H B ds vs → RpL H' B' ds vs
  | _, _, .nil => .nil
  | _, _, .cons r rs => .cons (Rp.move k r) (RpL.move k rs)
end
theorem RpL.length : ∀ {ds : List D} {vs : List V}, RpL H B ds vs → ds.length = vs.length
  | _, _, .nil => rfl
  | _, _, .cons _ rs => by simp [RpL.length rs]
theorem RpL.get : ∀ {ds : List D} {vs : List V} {i : Nat} {d : D}, RpL H B ds vs → ds[i]? = some d → ∃ v, vs[i]? = some v ∧ Rp H B d v
  | _, _, _, _, .nil, e => by simp at e
  | _, _, 0, _, .cons r _, e => by simp at e; subst e; exact ⟨_, rfl, r⟩
  | _, _, i + 1, _, .cons _ rs, e => by
    obtain ⟨v, h1, h2⟩ := RpL.get (i := i) rs (by simpa using e)
    exact ⟨v, by simpa using h1, h2⟩
theorem RpL.getV : ∀ {ds : List D} {vs : List V} {i : Nat} {v : V}, RpL H B ds vs → vs[i]? = some v → ∃ d, ds[i]? = some d ∧ Rp H B d v
  | _, _, _, _, .nil, e => by simp at e
  | _, _, 0, _, .cons r _, e => by simp at e; subst e; exact ⟨_, rfl, r⟩
  | _, _, i + 1, _, .cons _ rs, e => by
    obtain ⟨v, h1, h2⟩ := RpL.getV (i := i) rs (by simpa using e)
    exact ⟨v, by simpa using h1, h2⟩
theorem RpL.append : ∀ {ds es : List D} {vs ws : List V}, RpL H B ds vs → RpL H B es ws → RpL H B (ds ++ es) (vs ++ ws)
  | _, _, _, _, .nil, q => q
  | _, _, _, _, .cons r rs, q => .cons r (RpL.append rs q)
theorem RpL.take (n : Nat) : ∀ {ds : List D} {vs : List V}, RpL H B ds vs → RpL H B (ds.take n) (vs.take n) := by
  induction n with
  | zero => intro ds vs _; exact .nil
  | succ n ih =>
    intro ds vs r
    cases r with
    | nil => exact .nil
    | cons r rs => exact .cons r (ih rs)
theorem RpL.drop (n : Nat) : ∀ {ds : List D} {vs : List V}, RpL H B ds vs → RpL H B (ds.drop n) (vs.drop n) := by
  induction n with
  | zero => intro ds vs r; exact r
  | succ n ih =>
    intro ds vs r
    cases r with
    | nil => exact .nil
    | cons r rs => exact ih rs
theorem RpL.set {d : D} {v : V} (q : Rp H B d v) : ∀ {ds : List D} {vs : List V} (i : Nat), RpL H B ds vs → RpL H B (ds.set i d) (vs.set i v)
  | _, _, _, .nil => .nil
  | _, _, 0, .cons _ rs => .cons q rs
  | _, _, i + 1, .cons r rs => .cons r (RpL.set q i rs)
theorem RpL.reverse : ∀ {ds : List D} {vs : List V}, RpL H B ds vs → RpL H B ds.reverse vs.reverse
  | _, _, .nil => .nil
  | _, _, .cons r rs => by
    rw [List.reverse_cons, List.reverse_cons]
    exact RpL.append (RpL.reverse rs) (.cons r .nil)
theorem RpL.ints : ∀ {ns : List Int} {vs : List V}, RpL H B (ns.map .int) vs → vs = ns.map V.int
  | [], _, .nil => rfl
  | n :: ns, _, .cons r rs => by
    cases r
    rw [List.map_cons, RpL.ints rs]
theorem RpL.bools : ∀ {ns : List Bool} {vs : List V}, RpL H B (ns.map .bool) vs → vs = ns.map V.bl
  | [], _, .nil => rfl
  | n :: ns, _, .cons r rs => by
    cases r
    rw [List.map_cons, RpL.bools rs]
theorem RpL.ofInts : ∀ (ns : List Int), RpL H B (ns.map .int) (ns.map V.int)
  | [] => .nil
  | n :: ns => .cons (.int n) (RpL.ofInts ns)
mutual
theorem Rp.dp {K : PySem.W.Frag} : ∀ {d : D} {v : V}, Rp H B d v → Dp K H v d
  | _, _, .non => .non
  | _, _, .bl b => .bl b
  | _, _, .int i => .int i
  | _, _, .str x => .str x
  | _, _, .lst _ r rs => .lst (.inl r) (RpL.dp rs)
  | _, _, .tup _ e rs => .tup (.inl (.inl e)) (RpL.dp rs)
theorem RpL.dp {K : PySem.W.Frag} : ∀ {ds : List D} {vs : List V}, RpL H B ds vs → DpAll K H vs ds
  | _, _, .nil => .nil
  | _, _, .cons r rs => .cons (Rp.dp r) (RpL.dp rs)
end
end

/-! ### .. with lists that may be written -/
mutual
inductive Rx (H : Hp) (B : Addr → Prop) : D → V → Prop
  | non : Rx H B .none .non
  | bl (b : Bool) : Rx H B (.bool b) (.bl b)
  | int (i : Int) : Rx H B (.int i) (.int i)
  | str (x : Str) : Rx H B (.str x) (.str x)
  | lst {a : Addr} {xs : List V} {ds : List D} : ¬ B a → H a = some (.lst xs) → RxL H B ds xs → Rx H B (.list ds) (.ref a)
  | tup {a : Addr} {xs : List V} {ds : List D} : ¬ B a → H a = some (.tup xs) → RxL H B ds xs → Rx H B (.tuple ds) (.ref a)
inductive RxL (H : Hp) (B : Addr → Prop) : List D → List V → Prop
  | nil : RxL H B [] []
  | cons {d : D} {v : V} {ds : List D} {vs : List V} : Rx H B d v → RxL H B ds vs → RxL H B (d :: ds) (v :: vs)
end
section
variable {H H' : Hp} {B B' : Addr → Prop}
mutual
theorem Rx.move (k : ∀ b o, H b = some o → NT o → ¬ B b → H' b = some o ∧ ¬ B' b) : ∀ {d : D} {v : V}, Rx H B d v → Rx H' B' d v
  | _, _, .non => .non
  | _, _, .bl b => .bl b
  | _, _, .int i => .int i
  | _, _, .str x => .str x
  | _, _, .lst nb e rs => .lst (k _ _ e (fun _ z => nomatch z) nb).2 (k _ _ e (fun _ z => nomatch z) nb).1 (RxL.move k rs)
  | _, _, .tup nb e rs => .tup (k _ _ e (fun _ z => nomatch z) nb).2 (k _ _ e (fun _ z => nomatch z) nb).1 (RxL.move k rs)
theorem RxL.move (k : ∀ b o, H b = some o → NT o → ¬ B b → H' b = some o ∧ ¬ B' b) : ∀ {ds : List D} {vs : List V}, RxL H B ds vs → RxL H' B' ds vs
  | _, _, .nil => .nil
  | _, _, .cons r rs => .cons (Rx.move k r) (RxL.move k rs)
end
mutual
theorem Rx.rp : ∀ {d : D} {v : V}, Rx H B d v → Rp H B d v
  | _, _, .non => .non
  | _, _, .bl b => .bl b
  | _, _, .int i => .int i
  | _, _, .str x => .str x
  | _, _, .lst nb e rs => .lst nb (.inl e) (RxL.rp rs)
  | _, _, .tup nb e rs => .tup nb e (RxL.rp rs)
theorem RxL.rp : ∀ {ds : List D} {vs : List V}, RxL H B ds vs → RpL H B ds vs
  | _, _, .nil => .nil
  | _, _, .cons r rs => .cons (Rx.rp r) (RxL.rp rs)
end
theorem RxL.length : ∀ {ds : List D} {vs : List V}, RxL H B ds vs → ds.length = vs.length
  | _, _, .nil => rfl
  | _, _, .cons _ rs => by simp [RxL.length rs]
theorem RxL.append : ∀ {ds es : List D} {vs ws : List V}, RxL H B ds vs → RxL H B es ws → RxL H B (ds ++ es) (vs ++ ws)
  | _, _, _, _, .nil, q => q
  | _, _, _, _, .cons r rs, q => .cons r (RxL.append rs q)
theorem RxL.get : ∀ {ds : List D} {vs : List V} {i : Nat} {d : D}, RxL H B ds vs → ds[i]? = some d → ∃ v, vs[i]? = some v ∧ Rx H B d v
  | _, _, _, _, .nil, e => by simp at e
  | _, _, 0, _, .cons r _, e => by simp at e; subst e; exact ⟨_, rfl, r⟩
  | _, _, i + 1, _, .cons _ rs, e => by
    obtain ⟨v, h1, h2⟩ := RxL.get (i := i) rs (by simpa using e)
    exact ⟨v, by simpa using h1, h2⟩
def flatD : D → Bool
  | .none => true
  | .bool _ => true
  | .int _ => true
  | .str _ => true
  | _ => false
theorem Rp.flat {d : D} {v : V} (r : Rp H B d v) (f : flatD d = true) : Rp H' B' d v := by
  cases r with
  | non => exact .non
  | bl b => exact .bl b
  | int i => exact .int i
  | str x => exact .str x
  | lst _ _ _ => cases f
  | tup _ _ _ => cases f
theorem Rp.flatX {d : D} {v : V} (r : Rp H B d v) (f : flatD d = true) : Rx H' B' d v := by
  cases r with
  | non => exact .non
  | bl b => exact .bl b
  | int i => exact .int i
  | str x => exact .str x
  | lst _ _ _ => cases f
  | tup _ _ _ => cases f
theorem RpL.flatX : ∀ {ds : List D} {vs : List V}, RpL H B ds vs → ds.all flatD = true → RxL H' B' ds vs
  | _, _, .nil, _ => .nil
  | _, _, .cons r rs, f => by
    rw [List.all_cons, Bool.and_eq_true] at f
    exact .cons (r.flatX f.1) (RpL.flatX rs f.2)
end

/-! ### slots -/
abbrev DKV := List (List Key × D)
inductive Sl where
  | un | va (d : D) | ow (ds : List D) | vn (d : D) | dc (t : Bool) (kvs : DKV)
abbrev En := List Sl
/-- a key, by data -/
def kD : Key → D
  | .inl n => .int n
  | .inr x => .str x
/-- the dict at a: its keys, and its values by data; keys that are tuples of keys; keys that are keys -/
def DcAt (H : Hp) (B : Addr → Prop) (a : Addr) : Bool → DKV → Prop
  | false, kvs => ∃ ks : List (Key × V), H a = some (.dK ks) ∧ Paired (fun (p : List Key × D) (q : Key × V) => p.1 = [q.1] ∧ Rp H B p.2 q.2) kvs ks
  | true, kvs => ∃ ks : List (List Key × V), H a = some (.dT ks) ∧ Paired (fun (p : List Key × D) (q : List Key × V) => p.1 = q.1 ∧ Rp H B p.2 q.2) kvs ks
def isOwn : Sl → Bool
  | .ow _ => true
  | .dc _ _ => true
  | _ => false
/-- the object at a holds what the slot tells -/
def OwnAt (H : Hp) (B : Addr → Prop) (a : Addr) : Sl → Prop
  | .ow ds => ∃ xs, H a = some (.lst xs) ∧ RpL H B ds xs
  | .dc t kvs => DcAt H B a t kvs
  | _ => False
theorem DcAt.move {H H' : Hp} {B B' : Addr → Prop} {a : Addr} {t : Bool} {kvs : DKV} (d : DcAt H B a t kvs) (ha : ∀ o, H a = some o → NT o → H' a = some o) (k : ∀ b o, H b = some o → NT o → ¬ B b → H' b = some o ∧ ¬ B' b) : DcAt H' B' a t kvs := by
  cases t with
  | false =>
    obtain ⟨ks, h1, h2⟩ := d
    exact ⟨ks, ha _ h1 (fun _ z => nomatch z), Paired.mapP h2 fun p q z => ⟨z.1, z.2.move k⟩⟩
  | true =>
    obtain ⟨ks, h1, h2⟩ := d
    exact ⟨ks, ha _ h1 (fun _ z => nomatch z), Paired.mapP h2 fun p q z => ⟨z.1, z.2.move k⟩⟩
theorem DcAt.ne {H : Hp} {B : Addr → Prop} {a : Addr} {t : Bool} {kvs : DKV} (d : DcAt H B a t kvs) : H a ≠ none ∧ ∀ xs, H a ≠ some (.lst xs) := by
  cases t with
  | false =>
    obtain ⟨ks, h1, h2⟩ := d
    exact ⟨(by rw [h1]; exact fun z => nomatch z), (fun xs => by rw [h1]; exact fun z => nomatch z)⟩
  | true =>
    obtain ⟨ks, h1, h2⟩ := d
    exact ⟨(by rw [h1]; exact fun z => nomatch z), (fun xs => by rw [h1]; exact fun z => nomatch z)⟩
theorem OwnAt.move {H H' : Hp} {B B' : Addr → Prop} {a : Addr} {s : Sl} (d : OwnAt H B a s) (ha : ∀ o, H a = some o → NT o → H' a = some o) (k : ∀ b o, H b = some o → NT o → ¬ B b → H' b = some o ∧ ¬ B' b) : OwnAt H' B' a s := by
  cases s with
  | ow ds =>
    obtain ⟨xs, h1, h2⟩ := d
    exact ⟨xs, ha _ h1 (fun _ z => nomatch z), h2.move k⟩
  | dc t kvs => exact DcAt.move d ha k
  | un => exact d
  | va _ => exact d
  | vn _ => exact d
theorem OwnAt.ne {H : Hp} {B : Addr → Prop} {a : Addr} {s : Sl} (d : OwnAt H B a s) : H a ≠ none := by
  cases s with
  | ow ds =>
    obtain ⟨xs, h1, h2⟩ := d
    rw [h1]
    exact fun z => nomatch z
  | dc t kvs => exact (DcAt.ne d).1
  | un => exact d.elim
  | va _ => exact d.elim
  | vn _ => exact d.elim
/-- an own object is no tuple and no table -/
theorem OwnAt.obj {H : Hp} {B : Addr → Prop} {a : Addr} {s : Sl} (d : OwnAt H B a s) : ∃ o, H a = some o ∧ NT o ∧ (∀ φ, o ≠ .ext φ) := by
  cases s with
  | ow ds =>
    obtain ⟨xs, h1, h2⟩ := d
    exact ⟨_, h1, (fun _ z => nomatch z), fun _ z => nomatch z⟩
  | dc t kvs =>
    cases t with
    | false =>
      obtain ⟨ks, h1, h2⟩ := d
      exact ⟨_, h1, (fun _ z => nomatch z), fun _ z => nomatch z⟩
    | true =>
      obtain ⟨ks, h1, h2⟩ := d
      exact ⟨_, h1, (fun _ z => nomatch z), fun _ z => nomatch z⟩
  | un => exact d.elim
  | va _ => exact d.elim
  | vn _ => exact d.elim

/-- what is blocked for the whole run, and what stood at its start -/
structure Bk where
  bl : Addr → Prop
  od : Addr → Prop
def blk (Bf : Bk) (ow : Nat → Option Addr) (b : Addr) : Prop := Bf.bl b ∨ ∃ i, ow i = some b

/-- .. and what stood at the start: a value that was made since -/
def blkN (Bf : Bk) (ow : Nat → Option Addr) (b : Addr) : Prop := blk Bf ow b ∨ Bf.od b
def insB (Bf : Bk) (p : Addr) : Bk := ⟨fun b => Bf.bl b ∨ b = p, Bf.od⟩

structure Ok (P : Pl) (Bf : Bk) (ow : Nat → Option Addr) (en : En) (σ : L2.St) (H : Hp) : Prop where
  hlen : σ.length = en.length
  hva : ∀ (i : Nat) (d : D), en[i]? = some (Sl.va d) → ∃ v, σ[i]? = some (some v) ∧ Rp H (blk Bf ow) d v
  hvn : ∀ (i : Nat) (d : D), en[i]? = some (Sl.vn d) → ∃ v, σ[i]? = some (some v) ∧ Rx H (blkN Bf ow) d v
  hob : ∀ (i : Nat) (s : Sl), en[i]? = some s → isOwn s = true → ∃ a, ow i = some a ∧ σ[i]? = some (some (.ref a)) ∧ OwnAt H (blk Bf ow) a s
  hdom : ∀ (i : Nat) (a : Addr), ow i = some a → ∃ s, en[i]? = some s ∧ isOwn s = true
  hinj : ∀ i j a, ow i = some a → ow j = some a → i = j
  hbf : ∀ b, Bf.bl b → H b ≠ none
  hod : ∀ b, Bf.od b → H b ≠ none
  hloc : ∀ i a, ow i = some a → i ∉ P → ¬ Bf.bl a ∧ ¬ Bf.od a
  htab : LamX.Tabs P.tb H
theorem Ok.hown {P : Pl} {Bf : Bk} {ow : Nat → Option Addr} {en : En} {σ : L2.St} {H : Hp} (k : Ok P Bf ow en σ H) (i : Nat) (ds : List D) (e : en[i]? = some (Sl.ow ds)) : ∃ a xs, ow i = some a ∧ σ[i]? = some (some (.ref a)) ∧ H a = some (.lst xs) ∧ RpL H (blk Bf ow) ds xs := by
  obtain ⟨a, h1, h2, xs, h3, h4⟩ := k.hob i _ e rfl
  exact ⟨a, xs, h1, h2, h3, h4⟩
theorem Ok.hdc {P : Pl} {Bf : Bk} {ow : Nat → Option Addr} {en : En} {σ : L2.St} {H : Hp} (k : Ok P Bf ow en σ H) (i : Nat) (t : Bool) (kvs : DKV) (e : en[i]? = some (Sl.dc t kvs)) : ∃ a, ow i = some a ∧ σ[i]? = some (some (.ref a)) ∧ DcAt H (blk Bf ow) a t kvs := k.hob i _ e rfl
/-- where a slot's own object lies -/
theorem Ok.hat {P : Pl} {Bf : Bk} {ow : Nat → Option Addr} {en : En} {σ : L2.St} {H : Hp} (k : Ok P Bf ow en σ H) {i : Nat} {a : Addr} (e : ow i = some a) : ∃ s, en[i]? = some s ∧ isOwn s = true ∧ σ[i]? = some (some (.ref a)) ∧ OwnAt H (blk Bf ow) a s := by
  obtain ⟨s, h1, h2⟩ := k.hdom i a e
  obtain ⟨a', h3, h4, h5⟩ := k.hob i s h1 h2
  rw [e] at h3
  cases h3
  exact ⟨s, h1, h2, h4, h5⟩

structure Rel (P : Pl) (H : Hp) (ow : Nat → Option Addr) (H' : Hp) (ow' : Nat → Option Addr) : Prop where
  hkeep : ∀ b o, H b = some o → NT o → (∀ i, ow i ≠ some b) → H' b = some o ∧ (∀ i, ow' i ≠ some b)
  hsome : ∀ b, H b ≠ none → H' b ≠ none
  hpin : ∀ i, i ∈ P → ow' i = ow i
  hsub : ∀ (i : Nat) (a : Addr), ow' i = some a → ow i = some a

section
variable {P : Pl} {Bf : Bk} {ow ow' ow1 : Nat → Option Addr} {en en' : En} {σ σ' : L2.St} {H H' H1 : Hp}
theorem Rel.refl : Rel P H ow H ow := ⟨fun _ _ e t n => ⟨e, n⟩, fun _ e => e, fun _ _ => rfl, fun _ _ e => e⟩
theorem Rel.trans (a : Rel P H ow H1 ow1) (b : Rel P H1 ow1 H' ow') : Rel P H ow H' ow' :=
  ⟨fun x o e t n => b.hkeep x o (a.hkeep x o e t n).1 t (a.hkeep x o e t n).2, fun x e => b.hsome x (a.hsome x e), fun i hi => (b.hpin i hi).trans (a.hpin i hi), fun i x e => a.hsub i x (b.hsub i x e)⟩
theorem Rel.mv (a : Rel P H ow H' ow') : ∀ b o, H b = some o → NT o → ¬ blk Bf ow b → H' b = some o ∧ ¬ blk Bf ow' b := fun b o e t n => by
  have h := a.hkeep b o e t fun i z => n (.inr ⟨i, z⟩)
  exact ⟨h.1, fun z => z.elim (fun z => n (.inl z)) fun ⟨i, z⟩ => h.2 i z⟩
theorem Rel.mvN (a : Rel P H ow H' ow') : ∀ b o, H b = some o → NT o → ¬ blkN Bf ow b → H' b = some o ∧ ¬ blkN Bf ow' b := fun b o e t n => by
  have h := a.mv (Bf := Bf) b o e t fun z => n (.inl z)
  exact ⟨h.1, fun z => z.elim h.2 fun z => n (.inr z)⟩
theorem Rel.rp (a : Rel P H ow H' ow') {d : D} {v : V} (r : Rp H (blk Bf ow) d v) : Rp H' (blk Bf ow') d v := r.move a.mv
theorem Rel.rpl (a : Rel P H ow H' ow') {d : List D} {v : List V} (r : RpL H (blk Bf ow) d v) : RpL H' (blk Bf ow') d v := r.move a.mv
/-- new things alone -/
def Ext (H H' : Hp) : Prop := ∀ b o, H b = some o → H' b = some o
theorem Ext.refl : Ext H H := fun _ _ e => e
theorem Ext.trans (a : Ext H H1) (b : Ext H1 H') : Ext H H' := fun x o e => b x o (a x o e)
theorem Ext.upd {p : Addr} {o : HO} (h : H p = none) : Ext H (upd H p o) := fun b x e => by
  rw [upd_ne (ne_of_none e h)]
  exact e
theorem Ext.some (a : Ext H H') : ∀ b, H b ≠ none → H' b ≠ none := fun b h => by
  cases e : H b with
  | none => exact absurd e h
  | some o => rw [a b o e]; exact fun z => nomatch z
theorem Ext.rel (a : Ext H H') : Rel P H ow H' ow := ⟨fun b o e t n => ⟨a b o e, n⟩, a.some, fun _ _ => rfl, fun _ _ e => e⟩
/-- .. but for the tables, which stay good -/
structure ExtT (T : List (Addr × Str)) (H H' : Hp) : Prop where
  keep : ∀ b o, H b = some o → NT o → H' b = some o
  dom : ∀ b, H b ≠ none → H' b ≠ none
  tab : LamX.Tabs T H → LamX.Tabs T H'
theorem Ext.t {T : List (Addr × Str)} (a : Ext H H') : ExtT T H H' := ⟨fun b o e _ => a b o e, a.some, fun t => t.ext a⟩
theorem ExtT.refl {T : List (Addr × Str)} : ExtT T H H := Ext.refl.t
theorem ExtT.trans {T : List (Addr × Str)} (a : ExtT T H H1) (b : ExtT T H1 H') : ExtT T H H' := ⟨fun x o e t => b.keep x o (a.keep x o e t) t, fun x e => b.dom x (a.dom x e), fun t => b.tab (a.tab t)⟩
theorem ExtT.rel {T : List (Addr × Str)} (a : ExtT T H H') : Rel P H ow H' ow := ⟨fun b o e t n => ⟨a.keep b o e t, n⟩, a.dom, fun _ _ => rfl, fun _ _ e => e⟩
theorem ExtT.rp {T : List (Addr × Str)} {B : Addr → Prop} (a : ExtT T H H') {d : D} {v : V} (r : Rp H B d v) : Rp H' B d v := r.move fun b o e t n => ⟨a.keep b o e t, n⟩
theorem ExtT.rpl {T : List (Addr × Str)} {B : Addr → Prop} (a : ExtT T H H') {d : List D} {v : List V} (r : RpL H B d v) : RpL H' B d v := r.move fun b o e t n => ⟨a.keep b o e t, n⟩
theorem Ext.rp {B : Addr → Prop} (a : Ext H H') {d : D} {v : V} (r : Rp H B d v) : Rp H' B d v := r.move fun b o e t n => ⟨a b o e, n⟩
theorem Ext.rpl {B : Addr → Prop} (a : Ext H H') {d : List D} {v : List V} (r : RpL H B d v) : RpL H' B d v := r.move fun b o e t n => ⟨a b o e, n⟩
theorem Ok.extT (k : Ok P Bf ow en σ H) (a : ExtT P.tb H H') : Ok P Bf ow en σ H' where
  hlen := k.hlen
  hva := fun i d e => let ⟨v, h1, h2⟩ := k.hva i d e; ⟨v, h1, a.rp h2⟩
  hvn := fun i d e => let ⟨v, h1, h2⟩ := k.hvn i d e; ⟨v, h1, h2.move fun b o e t n => ⟨a.keep b o e t, n⟩⟩
  hob := fun i s e f => let ⟨x, h1, h2, h3⟩ := k.hob i s e f; ⟨x, h1, h2, h3.move (fun o e t => a.keep _ o e t) fun b o e t n => ⟨a.keep b o e t, n⟩⟩
  hdom := k.hdom
  hinj := k.hinj
  hbf := fun b h => a.dom b (k.hbf b h)
  hod := fun b h => a.dom b (k.hod b h)
  hloc := k.hloc
  htab := a.tab k.htab
theorem Ok.ext (k : Ok P Bf ow en σ H) (a : Ext H H') : Ok P Bf ow en σ H' := k.extT a.t
theorem Ok.nb (k : Ok P Bf ow en σ H) {p : Addr} (h : H p = none) : ¬ blk Bf ow p := fun z => by
  rcases z with z | ⟨i, z⟩
  · exact k.hbf p z h
  · obtain ⟨_, _, _, _, h3⟩ := k.hat z
    exact h3.ne h
end

/-! ### expressions -/
abbrev FE := En → Option (D × En)
def tv (P : Pl) (f : FE) : TE := fun σ H Q => ∃ Bf ow en, Ok P Bf ow en σ H ∧ ∃ d en', f en = some (d, en') ∧
  ∀ v ow' H', Ok P Bf ow' en' σ H' → Rel P H ow H' ow' → Rp H' (blk Bf ow') d v → Q v H'
def VE (X : Cx) (P : Pl) (e : Expr) (f : FE) : Prop := PE X e (tv P f)

theorem PE.weak {X : Cx} {e : Expr} {t t' : TE} (h : PE X e t) (w : ∀ σ H Q, t' σ H Q → t σ H Q) : PE X e t' :=
  ⟨fun pins s σ H Q I q => h.run pins s σ H Q I (w σ H Q q)⟩

section
variable {X : Cx} {P : Pl} {a b e : Expr} {fa fb : FE} {pos : Pos}

/-- a slot is let go: its list, if it was one's own, is a value from here on -/
def dropOw (ow : Nat → Option Addr) (i : Nat) : Nat → Option Addr := fun j => if j = i then none else ow j
theorem dropOw_sub {ow : Nat → Option Addr} {i : Nat} : ∀ (j : Nat) (a : Addr), dropOw ow i j = some a → ow j = some a := fun j a z => by
  unfold dropOw at z
  split at z
  · cases z
  · exact z
theorem dropOw_blk {Bf : Bk} {ow : Nat → Option Addr} {i : Nat} {b : Addr} (z : blk Bf (dropOw ow i) b) : blk Bf ow b := by
  rcases z with z | ⟨j, z⟩
  · exact .inl z
  · exact .inr ⟨j, dropOw_sub j b z⟩
theorem dropOw_rel {P : Pl} {ow : Nat → Option Addr} {H : Hp} {i : Nat} (hi : i ∉ P) : Rel P H ow H (dropOw ow i) :=
  ⟨fun b o e t n => ⟨e, fun j z => n j (dropOw_sub j b z)⟩, fun _ e => e, fun j hj => by
    unfold dropOw
    rw [if_neg fun z => hi (by rw [← z]; exact hj)], dropOw_sub⟩
theorem Ok.set {P : Pl} {Bf : Bk} {ow : Nat → Option Addr} {en : En} {σ : L2.St} {H : Hp} (k : Ok P Bf ow en σ H) {i : Nat} {d : D} {v : V} (hi : i ∉ P) (p : Rp H (blk Bf (dropOw ow i)) d v) : Ok P Bf (dropOw ow i) (en.set i (.va d)) (σ.set i (some v)) H := by
  have mv : ∀ b o, H b = some o → NT o → ¬ blk Bf ow b → H b = some o ∧ ¬ blk Bf (dropOw ow i) b := fun b o e t n => ⟨e, fun z => n (dropOw_blk z)⟩
  have mvN : ∀ b o, H b = some o → NT o → ¬ blkN Bf ow b → H b = some o ∧ ¬ blkN Bf (dropOw ow i) b := fun b o e t n => ⟨e, fun z => n (z.elim (fun z => .inl (dropOw_blk z)) .inr)⟩
  refine ⟨by simp [k.hlen], fun j d' e => ?_, fun j d' e => ?_, fun j ds e f => ?_, fun j a e => ?_, fun j l a e1 e2 => k.hinj j l a (dropOw_sub _ _ e1) (dropOw_sub _ _ e2), k.hbf, k.hod, fun j a e hj => k.hloc j a (dropOw_sub _ _ e) hj, k.htab⟩
  · by_cases hj : j = i
    · subst hj
      by_cases hl : j < en.length
      · rw [List.getElem?_set_self hl] at e
        cases e
        exact ⟨v, by rw [List.getElem?_set_self (by rw [k.hlen]; exact hl)], p⟩
      · rw [List.getElem?_eq_none (by simpa using hl)] at e
        cases e
    · rw [List.getElem?_set_ne (Ne.symm hj)] at e ⊢
      obtain ⟨w, h1, h2⟩ := k.hva j d' e
      exact ⟨w, h1, h2.move mv⟩
  · by_cases hj : j = i
    · subst hj
      by_cases hl : j < en.length
      · rw [List.getElem?_set_self hl] at e
        cases e
      · rw [List.getElem?_eq_none (by simpa using hl)] at e
        cases e
    · rw [List.getElem?_set_ne (Ne.symm hj)] at e ⊢
      obtain ⟨w, h1, h2⟩ := k.hvn j d' e
      exact ⟨w, h1, h2.move mvN⟩
  · by_cases hj : j = i
    · subst hj
      by_cases hl : j < en.length
      · rw [List.getElem?_set_self hl] at e
        cases e
        cases f
      · rw [List.getElem?_eq_none (by simpa using hl)] at e
        cases e
    · rw [List.getElem?_set_ne (Ne.symm hj)] at e ⊢
      obtain ⟨a, h1, h2, h3⟩ := k.hob j ds e f
      exact ⟨a, by unfold dropOw; rw [if_neg hj]; exact h1, h2, h3.move (fun o e _ => e) mv⟩
  · have e' := dropOw_sub _ _ e
    unfold dropOw at e
    split at e
    · cases e
    · rename_i hj
      rw [List.getElem?_set_ne (Ne.symm hj)]
      exact k.hdom j a e'
theorem Ok.setN {P : Pl} {Bf : Bk} {ow : Nat → Option Addr} {en : En} {σ : L2.St} {H : Hp} (k : Ok P Bf ow en σ H) {i : Nat} {d : D} {v : V} (hi : i ∉ P) (p : Rx H (blkN Bf (dropOw ow i)) d v) : Ok P Bf (dropOw ow i) (en.set i (.vn d)) (σ.set i (some v)) H := by
  have mv : ∀ b o, H b = some o → NT o → ¬ blk Bf ow b → H b = some o ∧ ¬ blk Bf (dropOw ow i) b := fun b o e t n => ⟨e, fun z => n (dropOw_blk z)⟩
  have mvN : ∀ b o, H b = some o → NT o → ¬ blkN Bf ow b → H b = some o ∧ ¬ blkN Bf (dropOw ow i) b := fun b o e t n => ⟨e, fun z => n (z.elim (fun z => .inl (dropOw_blk z)) .inr)⟩
  refine ⟨by simp [k.hlen], fun j d' e => ?_, fun j d' e => ?_, fun j ds e f => ?_, fun j a e => ?_, fun j l a e1 e2 => k.hinj j l a (dropOw_sub _ _ e1) (dropOw_sub _ _ e2), k.hbf, k.hod, fun j a e hj => k.hloc j a (dropOw_sub _ _ e) hj, k.htab⟩
  · by_cases hj : j = i
    · subst hj
      by_cases hl : j < en.length
      · rw [List.getElem?_set_self hl] at e
        cases e
      · rw [List.getElem?_eq_none (by simpa using hl)] at e
        cases e
    · rw [List.getElem?_set_ne (Ne.symm hj)] at e ⊢
      obtain ⟨w, h1, h2⟩ := k.hva j d' e
      exact ⟨w, h1, h2.move mv⟩
  · by_cases hj : j = i
    · subst hj
      by_cases hl : j < en.length
      · rw [List.getElem?_set_self hl] at e
        cases e
        exact ⟨v, by rw [List.getElem?_set_self (by rw [k.hlen]; exact hl)], p⟩
      · rw [List.getElem?_eq_none (by simpa using hl)] at e
        cases e
    · rw [List.getElem?_set_ne (Ne.symm hj)] at e ⊢
      obtain ⟨w, h1, h2⟩ := k.hvn j d' e
      exact ⟨w, h1, h2.move mvN⟩
  · by_cases hj : j = i
    · subst hj
      by_cases hl : j < en.length
      · rw [List.getElem?_set_self hl] at e
        cases e
        cases f
      · rw [List.getElem?_eq_none (by simpa using hl)] at e
        cases e
    · rw [List.getElem?_set_ne (Ne.symm hj)] at e ⊢
      obtain ⟨a, h1, h2, h3⟩ := k.hob j ds e f
      exact ⟨a, by unfold dropOw; rw [if_neg hj]; exact h1, h2, h3.move (fun o e _ => e) mv⟩
  · have e' := dropOw_sub _ _ e
    unfold dropOw at e
    split at e
    · cases e
    · rename_i hj
      rw [List.getElem?_set_ne (Ne.symm hj)]
      exact k.hdom j a e'
/-- a list of one's own becomes a value -/
theorem Ok.freeze {P : Pl} {Bf : Bk} {ow : Nat → Option Addr} {en : En} {σ : L2.St} {H : Hp} (k : Ok P Bf ow en σ H) {i : Nat} {ds : List D} (hi : i ∉ P) (e : en[i]? = some (.ow ds)) :
    ∃ v, σ[i]? = some (some v) ∧ Ok P Bf (dropOw ow i) (en.set i (.va (.list ds))) σ H ∧ Rp H (blk Bf (dropOw ow i)) (.list ds) v := by
  obtain ⟨a, xs, h1, h2, h3, h4⟩ := k.hown i ds e
  have p : Rp H (blk Bf (dropOw ow i)) (.list ds) (.ref a) := by
    refine .lst (fun z => ?_) (.inl h3) (h4.move fun b o e t n => ⟨e, fun z => n (dropOw_blk z)⟩)
    rcases z with z | ⟨j, z⟩
    · exact (k.hloc i a h1 hi).1 z
    · have := k.hinj j i a (dropOw_sub _ _ z) h1
      subst this
      unfold dropOw at z
      rw [if_pos rfl] at z
      cases z
  refine ⟨_, h2, ?_, p⟩
  have k2 := k.set hi p
  have es : σ.set i (some (.ref a)) = σ := by
    apply List.ext_getElem?
    intro j
    by_cases hj : j = i
    · subst hj
      rw [List.getElem?_set_self (List.getElem?_eq_some_iff.mp h2).1, h2]
    · rw [List.getElem?_set_ne (Ne.symm hj)]
  rw [es] at k2
  exact k2
def eVar (P : List Nat) (i : Nat) : FE := fun en => match en[i]? with
  | some (.va d) => some (d, en)
  | some (.ow ds) => if i ∈ P then none else some (.list ds, en.set i (.va (.list ds)))
  | some (.vn d) => some (d, en)
  | _ => none
theorem ve_var {i : Nat} {x : Str} (hN : X.N[i]? = some x) (hv : Vis X.env.scope x := by first | exact .inl rfl | exact .inr (.inl rfl) | exact .inr (.inr rfl)) (hd : (x == ("__debug__" : Str)) = false := by decide) (hcd : (x == ("__classdict__" : Str)) = false := by decide) : VE X P (.Name x pos) (eVar P.ps i) := by
  refine PE.weak (pe_var hN hv hd hcd) fun σ H Q h => ?_
  obtain ⟨Bf, ow, en, k, d, en', hf, q⟩ := h
  unfold eVar at hf
  split at hf
  · rename_i d' he
    cases hf
    obtain ⟨v, h1, h2⟩ := k.hva i d he
    exact ⟨v, h1, q v ow H k .refl h2⟩
  · rename_i ds he
    split at hf
    · cases hf
    · rename_i hi
      cases hf
      obtain ⟨v, h1, k2, p⟩ := k.freeze hi he
      exact ⟨v, h1, q v _ H k2 (dropOw_rel hi) p⟩
  · rename_i d' he
    cases hf
    obtain ⟨v, h1, h2⟩ := k.hvn i d he
    exact ⟨v, h1, q v ow H k .refl (h2.rp.move fun b o e t n => ⟨e, fun z => n (.inl z)⟩)⟩
  · cases hf
def eC (d : D) : FE := fun en => some (d, en)
theorem ve_of {v : V} {d : D} (h : PE X e (tC v)) (r : ∀ H B, Rp H B d v) : VE X P e (eC d) := by
  refine PE.weak h fun σ H Q h => ?_
  obtain ⟨Bf, ow, en, k, d, en', hf, q⟩ := h
  cases hf
  exact q v ow H k .refl (r _ _)
theorem ve_int {i j pos} : VE X P (.Constant (.int i) j pos) (eC (.int i)) := ve_of pe_int fun _ _ => .int i
theorem ve_bl {i j pos} : VE X P (.Constant (.bool i) j pos) (eC (.bool i)) := ve_of pe_bl fun _ _ => .bl i
theorem ve_non {j pos} : VE X P (.Constant .none j pos) (eC .none) := ve_of pe_non fun _ _ => .non
theorem ve_str {x j pos} : VE X P (.Constant (.str x) j pos) (eC (.str x)) := ve_of pe_str fun _ _ => .str x

/-- a pure operator by data -/
def OpV (r : R2) (g : D → D → Option D) : Prop := ∀ (H : Hp) (B : Addr → Prop) (d1 d2 d : D) (v1 v2 : V) (Q : VK), g d1 d2 = some d → Rp H B d1 v1 → Rp H B d2 v2 → (∀ p, H p = none → ¬ B p) →
  (∀ v H', Ext H H' → Rp H' B d v → Q v H') → r v1 v2 H Q
def eOp (g : D → D → Option D) (fa fb : FE) : FE := fun en => match fa en with
  | some (x, en1) => match fb en1 with
    | some (y, en2) => match g x y with
      | some z => some (z, en2)
      | none => none
    | none => none
  | none => none
theorem tv_op {r : R2} {g : D → D → Option D} (hg : OpV r g) (σ : L2.St) (H : Hp) (Q : VK) (h : tv P (eOp g fa fb) σ H Q) : tOp r (tv P fa) (tv P fb) σ H Q := by
  obtain ⟨Bf, ow, en, k, d, en', hf, q⟩ := h
  unfold eOp at hf
  split at hf
  · rename_i x en1 h1
    split at hf
    · rename_i y en2 h2
      split at hf
      · rename_i z h3
        cases hf
        refine ⟨Bf, ow, en, k, x, en1, h1, fun v1 ow1 H1 k1 r1 p1 => ?_⟩
        refine ⟨Bf, ow1, en1, k1, y, _, h2, fun v2 ow2 H2 k2 r2 p2 => ?_⟩
        refine hg H2 (blk Bf ow2) x y d v1 v2 Q h3 (r2.rp p1) p2 (fun p hp => k2.nb hp) fun v H' ex p => ?_
        exact q v ow2 H' (k2.ext ex) ((r1.trans r2).trans ex.rel) p
      · cases hf
    · cases hf
  · cases hf
theorem ve_op {op : Operator} {r : R2} {g : D → D → Option D} (ho : OpR X (binaryOp op) r) (hg : OpV r g) (ha : VE X P a fa) (hb : VE X P b fb) : VE X P (.BinOp a op b pos) (eOp g fa fb) :=
  PE.weak (pe_op ho ha hb) (tv_op hg)
theorem ve_cmp {op : CmpOp} {r : R2} {g : D → D → Option D} (ho : OpR X (compareOp op) r) (hg : OpV r g) (ha : VE X P a fa) (hb : VE X P b fb) (hm : behindInMarks op b = false) : VE X P (.Compare a [op] [b] pos) (eOp g fa fb) :=
  PE.weak (pe_cmpR ho ha hb hm) (tv_op hg)
theorem ve_ix {r : R2} {g : D → D → Option D} (ho : IxR X r) (hg : OpV r g) (ha : VE X P a fa) (hb : VE X P b fb) (hm : PlainIx b) : VE X P (.Subscript a b pos) (eOp g fa fb) :=
  PE.weak (pe_ix ho ha hb hm) (tv_op hg)
end
end VL

namespace VL
open PySem PySem.Spec
open PyProof.Rows L2

section
variable {K : PySem.W.Frag}
/-- two ints -/
def gII (c : Int → Int → Bool) (f : Int → Int → D) : D → D → Option D
  | .int i, .int j => if c i j then some (f i j) else none
  | _, _ => none
theorem ov_ii {C : Int → Int → Prop} {c : Int → Int → Bool} {gv : Int → Int → V} {f : Int → Int → D} (hc : ∀ i j, c i j = true → C i j) (hf : ∀ H B i j, Rp H B (f i j) (gv i j)) : OpV (rI C gv) (gII c f) := by
  intro H B d1 d2 d v1 v2 Q e p1 p2 nb q
  unfold gII at e
  split at e
  · rename_i i j
    split at e
    · rename_i h
      cases e
      cases p1
      cases p2
      exact ⟨i, j, rfl, rfl, hc i j h, q _ H .refl (hf H B i j)⟩
    · cases e
  · cases e
theorem ov_ii0 {gv : Int → Int → V} {f : Int → Int → D} (hf : ∀ H B i j, Rp H B (f i j) (gv i j)) : OpV (rI0 gv) (gII (fun _ _ => true) f) := by
  intro H B d1 d2 d v1 v2 Q e p1 p2 nb q
  unfold gII at e
  split at e
  · rename_i i j
    cases e
    cases p1
    cases p2
    exact ⟨i, j, rfl, rfl, q _ H .refl (hf H B i j)⟩
  · cases e
end

/-! ### + -/
def rCatR : R2 := fun x y H Q => ∃ l b xs zs, x = .ref l ∧ y = .ref b ∧ Rd H l (.lst xs) ∧ Rd H b (.lst zs) ∧ xs.length + zs.length ≤ sizeLine ∧ ∀ p, H p = none → Q (.ref p) (upd H p (.lst (xs ++ zs)))
theorem op_catR {X : Cx} : OpR X (binaryOp .Add) rCatR := by
  intro pins s σ H x y v u Q I rx ry h
  obtain ⟨l, b, xs, zs, rfl, rfl, hH, hB, hz, q⟩ := h
  cases rx
  cases ry
  obtain ⟨z, its, n, r, e⟩ := hH.ok I.hok
  obtain ⟨z2, its2, n2, r2, e2⟩ := hB.ok I.hok
  have hl := r.length
  have hl2 := r2.length
  refine PySem.P.add_list e e2 ?_ (by rw [List.size_toArray, List.size_toArray]; omega)
  have ea : its.toArray ++ its2.toArray = (its ++ its2).toArray := by simp
  rw [ea]
  refine ⟨.ref _, _, I.laid (t' := s.toks) (o := .lst (xs ++ zs)) (fun b ob q => Heap.get?_push_of_some _ q) (Nat.le_refl _) ?_, rfl, q _ (I.hok.fresh (Nat.le_refl _))⟩
  exact ⟨by rw [List.length_append]; exact hz, _, 0, r.append r2, Heap.get?_push_size _ rfl⟩
def rTupAdd : R2 := fun x y H Q => ∃ a b xs ys, x = .ref a ∧ y = .ref b ∧ H a = some (.tup xs) ∧ H b = some (.tup ys) ∧ xs.length + ys.length ≤ sizeLine ∧
  (xs = [] → Q (.ref b) H) ∧ (xs ≠ [] → ys = [] → Q (.ref a) H) ∧ (xs ≠ [] → ys ≠ [] → ∀ p, H p = none → Q (.ref p) (upd H p (.tup (xs ++ ys))))
theorem op_tupAdd {X : Cx} : OpR X (binaryOp .Add) rTupAdd := by
  intro pins s σ H x y v u Q I rx ry h
  obtain ⟨a, b, xs, ys, rfl, rfl, ha, hb, hz, q0, q1, q2⟩ := h
  by_cases hx : xs = []
  · cases rx
    cases ry
    obtain ⟨its, r1, p1, _⟩ := I.tuple (SqT.of ha)
    obtain ⟨its2, r2, p2, _⟩ := I.tuple (SqT.of hb)
    obtain ⟨⟨cls, dd, data, sl⟩, ho, hc, n, hd⟩ := id p1
    obtain ⟨⟨cls2, dd2, data2, sl2⟩, ho2, hc2, n2, hd2⟩ := id p2
    simp only at hc hd hc2 hd2
    subst hc hd hc2 hd2
    subst hx
    cases r1
    exact concat_meets ⟨_, ho, rfl⟩ ⟨_, ho2, rfl⟩ noFill_tuple_add seq_tuple_add PySem.F.slot_tuple_add PySem.F.entry_tuple_add (PySem.F.args_tuple_add_2 _ _)
      (tuple_addW0 a b #[] its2.toArray n n2 dd dd2 sl sl2 (by simp)) ⟨ho, ho2, ⟨.ref b, H, I, rfl, q0 rfl⟩⟩
  · exact op_catT pins s σ H _ _ v u Q I rx ry ⟨a, b, xs, ys, rfl, rfl, SqT.of ha, SqT.of hb, hx, hz, q1 hx, q2 hx⟩
def gAdd : D → D → Option D
  | .int i, .int j => some (.int (i + j))
  | .str x, .str y => if x.length + y.length ≤ sizeLine then some (.str (x ++ y)) else none
  | .list xs, .list ys => if xs.length + ys.length ≤ sizeLine then some (.list (xs ++ ys)) else none
  | .tuple xs, .tuple ys => if xs.length + ys.length ≤ sizeLine then some (.tuple (xs ++ ys)) else none
  | _, _ => none
def rAddAll : R2 := fun x y H Q => (∃ i j, x = .int i ∧ y = .int j ∧ Q (.int (i + j)) H) ∨ (∃ i j, x = .str i ∧ y = .str j ∧ i.length + j.length ≤ sizeLine ∧ Q (.str (i ++ j)) H) ∨ rCatR x y H Q ∨ rTupAdd x y H Q
theorem op_addAll {X : Cx} : OpR X (binaryOp .Add) rAddAll := op_add.or (op_add_str.or (op_catR.or op_tupAdd))
theorem ov_add : OpV rAddAll gAdd := by
  intro H B d1 d2 d v1 v2 Q e p1 p2 nb q
  unfold gAdd at e
  split at e
  · cases e
    cases p1
    cases p2
    exact .inl ⟨_, _, rfl, rfl, q _ H .refl (.int _)⟩
  · split at e
    · cases e
      cases p1
      cases p2
      exact .inr (.inl ⟨_, _, rfl, rfl, by assumption, q _ H .refl (.str _)⟩)
    · cases e
  · split at e
    · rename_i h
      cases e
      cases p1 with
      | lst b1 r1 s1 =>
        cases p2 with
        | lst b2 r2 s2 =>
          refine .inr (.inr (.inl ⟨_, _, _, _, rfl, rfl, r1, r2, by rw [← s1.length, ← s2.length]; exact h, fun p hp => ?_⟩))
          exact q _ _ (.upd hp) (.lst (nb p hp) (.inl upd_same) ((Ext.upd hp).rpl (s1.append s2)))
    · cases e
  · split at e
    · rename_i h
      cases e
      cases p1 with
      | tup b1 r1 s1 =>
        cases p2 with
        | tup b2 r2 s2 =>
          refine .inr (.inr (.inr ⟨_, _, _, _, rfl, rfl, r1, r2, by rw [← s1.length, ← s2.length]; exact h, fun hx => ?_, fun _ hy => ?_, fun _ _ p hp => ?_⟩))
          · subst hx
            cases s1
            exact q _ H .refl (.tup b2 r2 s2)
          · subst hy
            cases s2
            rw [List.append_nil] at q
            exact q _ H .refl (.tup b1 r1 s1)
          · exact q _ _ (.upd hp) (.tup (nb p hp) upd_same ((Ext.upd hp).rpl (s1.append s2)))
    · cases e
  · cases e

/-! ### the other operators on ints -/
theorem ri (i : Int) : ∀ H B, Rp H B (.int i) (.int i) := fun _ _ => .int i
def gSub : D → D → Option D := gII (fun _ _ => true) fun i j => .int (i - j)
theorem ov_sub : OpV (rI0 fun i j => .int (i - j)) gSub := ov_ii0 fun _ _ _ _ => .int _
def gMulI : D → D → Option D := gII (fun i j => decide (i.natAbs.log2 + j.natAbs.log2 < 1000000)) fun i j => .int (i * j)
theorem ov_mulI : OpV (rI CMulW fun i j => .int (i * j)) gMulI := ov_ii (fun i j h => by simpa [CMulW, CDivW, CPow] using h) fun _ _ _ _ => .int _
def gMod : D → D → Option D := gII (fun _ j => decide (0 < j)) fun i j => .int (i % j)
theorem ov_mod : OpV (rI (fun _ j => 0 < j) fun i j => .int (i % j)) gMod := ov_ii (fun i j h => by simpa [CMulW, CDivW, CPow] using h) fun _ _ _ _ => .int _
def gFdiv : D → D → Option D := gII (fun _ j => decide (0 < j ∧ j.natAbs.log2 < 9000)) fun i j => .int (i / j)
theorem ov_fdiv : OpV (rI CDivW fun i j => .int (i / j)) gFdiv := ov_ii (fun i j h => by simpa [CMulW, CDivW, CPow] using h) fun _ _ _ _ => .int _
def gPow : D → D → Option D := gII (fun i j => decide (0 ≤ j ∧ j ≤ 1000000 ∧ i.natAbs < 2 ^ 64)) fun i j => .int (i ^ j.toNat)
theorem ov_pow : OpV (rI CPow fun i j => .int (i ^ j.toNat)) gPow := ov_ii (fun i j h => by simpa [CMulW, CDivW, CPow] using h) fun _ _ _ _ => .int _

/-! ### comparisons -/
def gEq (d e : D) : Option D := if SeqAt.shaped d = true ∧ SeqAt.shaped e = true then some (.bool (PyData.eqv d e)) else none
theorem ov_eq {K : PySem.W.Frag} : OpV (rEqD K) gEq := by
  intro H B d1 d2 d v1 v2 Q e p1 p2 nb q
  unfold gEq at e
  split at e
  · rename_i h
    cases e
    exact ⟨d1, d2, p1.dp, p2.dp, h.1, h.2, q _ H .refl (.bl _)⟩
  · cases e
def gNe (d e : D) : Option D := if SeqAt.shaped d = true ∧ SeqAt.shaped e = true then some (.bool (!PyData.eqv d e)) else none
theorem ov_ne {K : PySem.W.Frag} : OpV (rNeD K) gNe := by
  intro H B d1 d2 d v1 v2 Q e p1 p2 nb q
  unfold gNe at e
  split at e
  · rename_i h
    cases e
    exact ⟨d1, d2, p1.dp, p2.dp, h.1, h.2, q _ H .refl (.bl _)⟩
  · cases e
def intsOf : List D → Option (List Int)
  | [] => some []
  | .int i :: r => (intsOf r).map (i :: ·)
  | _ => none
theorem intsOf_eq : ∀ {ds : List D} {ns : List Int}, intsOf ds = some ns → ds = ns.map .int
  | [], ns, h => by cases h; rfl
  | .int i :: r, ns, h => by
    cases e : intsOf r with
    | none => simp [intsOf, e] at h
    | some ms =>
      simp [intsOf, e] at h
      subst h
      rw [intsOf_eq e]
      rfl
  | .none :: r, _, h => by simp [intsOf] at h
  | .bool _ :: r, _, h => by simp [intsOf] at h
  | .str _ :: r, _, h => by simp [intsOf] at h
  | .list _ :: r, _, h => by simp [intsOf] at h
  | .tuple _ :: r, _, h => by simp [intsOf] at h
  | .dict _ :: r, _, h => by simp [intsOf] at h
theorem intsOf_map : ∀ ns : List Int, intsOf (ns.map .int) = some ns
  | [] => rfl
  | n :: ns => by simp [intsOf, intsOf_map ns]
def gLt : D → D → Option D
  | .int i, .int j => some (.bool (decide (i < j)))
  | .tuple xs, .tuple ys => match intsOf xs, intsOf ys with
    | some ns, some ms => some (.bool (HT.lexLt ns ms))
    | _, _ => none
  | _, _ => none
def rLtAll (K : PySem.W.Frag) : R2 := fun x y H Q => (∃ i j, x = .int i ∧ y = .int j ∧ Q (.bl (decide (i < j))) H) ∨ rLtT K x y H Q
theorem op_ltAll {X : Cx} (hu : X.A.units < cLine) : OpR X (compareOp .Lt) (rLtAll X.K) := op_lt.or (op_ltT hu)
theorem ov_lt {K : PySem.W.Frag} : OpV (rLtAll K) gLt := by
  intro H B d1 d2 d v1 v2 Q e p1 p2 nb q
  unfold gLt at e
  split at e
  · cases e
    cases p1
    cases p2
    exact .inl ⟨_, _, rfl, rfl, q _ H .refl (.bl _)⟩
  · split at e
    · rename_i h1 h2
      cases e
      have e1 := intsOf_eq h1
      have e2 := intsOf_eq h2
      subst e1 e2
      cases p1 with
      | tup b1 r1 s1 =>
        cases p2 with
        | tup b2 r2 s2 =>
          have := s1.ints
          have := s2.ints
          subst_vars
          exact .inr ⟨_, _, _, _, rfl, rfl, SqT.of r1, SqT.of r2, q _ H .refl (.bl _)⟩
    · cases e
  · cases e
def gLe : D → D → Option D := gII (fun _ _ => true) fun i j => .bool (decide (i ≤ j))
theorem ov_le : OpV (rI0 fun i j => .bl (decide (i ≤ j))) gLe := ov_ii0 fun _ _ _ _ => .bl _
def gGt : D → D → Option D := gII (fun _ _ => true) fun i j => .bool (decide (j < i))
theorem ov_gt : OpV (rI0 fun i j => .bl (decide (j < i))) gGt := ov_ii0 fun _ _ _ _ => .bl _
def gGe : D → D → Option D := gII (fun _ _ => true) fun i j => .bool (decide (j ≤ i))
theorem ov_ge : OpV (rI0 fun i j => .bl (decide (j ≤ i))) gGe := ov_ii0 fun _ _ _ _ => .bl _
def isNone : D → Bool
  | .none => true
  | _ => false
def gIs : D → D → Option D
  | d, .none => some (.bool (isNone d))
  | _, _ => none
def gIsNot : D → D → Option D
  | d, .none => some (.bool (!isNone d))
  | _, _ => none
theorem Rp.none_iff {H : Hp} {B : Addr → Prop} {d : D} {v : V} (r : Rp H B d v) : isNone d = decide (v = .non) := by
  cases r <;> rfl
theorem ov_is : OpV (fun x y H Q => y = .non ∧ Q (.bl (decide (x = .non))) H) gIs := by
  intro H B d1 d2 d v1 v2 Q e p1 p2 nb q
  unfold gIs at e
  split at e
  · cases e
    cases p2
    refine ⟨rfl, q _ H .refl ?_⟩
    rw [p1.none_iff]
    exact .bl _
  · cases e
theorem ov_isnot : OpV (fun x y H Q => y = .non ∧ Q (.bl (!decide (x = .non))) H) gIsNot := by
  intro H B d1 d2 d v1 v2 Q e p1 p2 nb q
  unfold gIsNot at e
  split at e
  · cases e
    cases p2
    refine ⟨rfl, q _ H .refl ?_⟩
    rw [p1.none_iff]
    exact .bl _
  · cases e

/-! ### x[i] -/
def gIx : D → D → Option D
  | .list xs, .int i => atI xs i
  | .tuple xs, .int i => atI xs i
  | .str z, .int i => if z.length ≤ sizeLine then (atI z.cps.toList i).map fun c => .str ⟨#[c]⟩ else none
  | _, _ => none
theorem RpL.atI {H : Hp} {B : Addr → Prop} {ds : List D} {vs : List V} {i : Int} {d : D} (r : RpL H B ds vs) (e : L2.atI ds i = some d) : ∃ v, L2.atI vs i = some v ∧ Rp H B d v := by
  unfold L2.atI at e ⊢
  rw [← r.length]
  cases h : ixN ds.length i with
  | none => rw [h] at e; cases e
  | some j =>
    rw [h] at e
    exact r.get e
theorem ov_ix {K : PySem.W.Frag} : OpV (rIx K) gIx := by
  intro H B d1 d2 d v1 v2 Q e p1 p2 nb q
  unfold gIx at e
  split at e
  · cases p2
    cases p1 with
    | lst b1 r1 s1 =>
      obtain ⟨v, h1, h2⟩ := s1.atI e
      exact .inl ⟨_, _, _, v, rfl, rfl, .inl r1, h1, q _ H .refl h2⟩
  · cases p2
    cases p1 with
    | tup b1 r1 s1 =>
      obtain ⟨v, h1, h2⟩ := s1.atI e
      exact .inr (.inl ⟨_, _, _, v, rfl, rfl, SqT.of r1, h1, q _ H .refl h2⟩)
  · rename_i z i
    split at e
    · rename_i hz
      cases p2
      cases p1
      cases h : atI z.cps.toList i with
      | none => rw [h] at e; cases e
      | some c =>
        rw [h] at e
        cases e
        exact .inr (.inr ⟨z, i, c, rfl, rfl, hz, h, q _ H .refl (.str _)⟩)
    · cases e
  · cases e
end VL

namespace VL
open PySem PySem.Spec
open PyProof.Rows L2

/-! ### tests -/
abbrev FT := En → Option (Bool × En)
def tvT (P : Pl) (f : FT) : TT := fun σ H Q => ∃ Bf ow en, Ok P Bf ow en σ H ∧ ∃ b en', f en = some (b, en') ∧
  ∀ ow' H', Ok P Bf ow' en' σ H' → Rel P H ow H' ow' → Q b H'
def VT (X : Cx) (P : Pl) (e : Expr) (f : FT) : Prop := PT X e (tvT P f)
def VW (X : Cx) (P : Pl) (e : Expr) (f : FT) : Prop := PW X e (tvT P f)
theorem PT.weak {X : Cx} {e : Expr} {t t' : TT} (h : PT X e t) (w : ∀ σ H Q, t' σ H Q → t σ H Q) : PT X e t' :=
  ⟨fun pins s σ H Q I q => h.run pins s σ H Q I (w σ H Q q)⟩
theorem PW.weak {X : Cx} {e : Expr} {t t' : TT} (h : PW X e t) (w : ∀ σ H Q, t' σ H Q → t σ H Q) : PW X e t' :=
  ⟨fun wh pins s σ H Q I q => h.run wh pins s σ H Q I (w σ H Q q)⟩

section
variable {X : Cx} {P : Pl} {a b c e : Expr} {rest : List Expr} {fa fb fc : FE} {ta tb : FT} {pos : Pos}
def truD : D → Option Bool
  | .none => some false
  | .bool b => some b
  | .int i => some (i != 0)
  | .str y => if y.length ≤ sizeLine then some ((y.length : Int) != 0) else none
  | .list xs => some (!xs.isEmpty)
  | .tuple xs => some (!xs.isEmpty)
  | .dict _ => none
def fTru (f : FE) : FT := fun en => match f en with
  | some (d, en1) => match truD d with
    | some b => some (b, en1)
    | none => none
  | none => none
theorem tru_of {K : PySem.W.Frag} {H : Hp} {B : Addr → Prop} {d : D} {v : V} {b : Bool} (r : Rp H B d v) (e : truD d = some b) : TruV K v H b := by
  cases r with
  | non => cases e; exact rfl
  | bl b => cases e; exact rfl
  | int i => cases e; exact rfl
  | str y =>
    have e' : (if y.length ≤ sizeLine then some ((y.length : Int) != 0) else none) = some b := e
    split at e'
    · cases e'
      exact ⟨by assumption, rfl⟩
    · cases e'
  | lst nb r rs =>
    cases e
    refine .inl ⟨_, .inl r, ?_⟩
    cases rs <;> rfl
  | tup nb r rs =>
    cases e
    refine .inr (.inl ⟨_, SqT.of r, ?_⟩)
    cases rs <;> rfl
theorem vt_truth (ha : VE X P a fa) (he : ∀ whole, isTrue a X.env whole = (do let v ← whole; standAt a.pos; holding [v] (truthy v)) := by intro _; rfl) : VT X P a (fTru fa) := by
  refine PT.weak (pt_truth ha he) fun σ H Q h => ?_
  obtain ⟨Bf, ow, en, k, b, en', hf, q⟩ := h
  unfold fTru at hf
  split at hf
  · rename_i d en1 h1
    split at hf
    · rename_i b' h2
      cases hf
      exact ⟨Bf, ow, en, k, d, _, h1, fun v ow1 H1 k1 r1 p1 => ⟨_, tru_of p1 h2, q ow1 H1 k1 r1⟩⟩
    · cases hf
  · cases hf
def fBool (f : FE) : FT := fun en => match f en with
  | some (.bool b, en1) => some (b, en1)
  | _ => none
theorem tvT_bool {f : FE} (σ : L2.St) (H : Hp) (Q : Bool → Hp → Prop) (h : tvT P (fBool f) σ H Q) : tv P f σ H fun x H' => ∃ k, x = .bl k ∧ Q k H' := by
  obtain ⟨Bf, ow, en, k, b, en', hf, q⟩ := h
  unfold fBool at hf
  split at hf
  · rename_i b' en1 h1
    cases hf
    exact ⟨Bf, ow, en, k, _, _, h1, fun v ow1 H1 k1 r1 p1 => by cases p1; exact ⟨_, rfl, q ow1 H1 k1 r1⟩⟩
  · cases hf
theorem vt_cmp {op : CmpOp} {r : R2} {g : D → D → Option D} (ho : OpR X (compareOp op) r) (hg : OpV r g) (ha : VE X P a fa) (hb : VE X P b fb) (hm : behindInMarks op b = false) : VT X P (.Compare a [op] [b] pos) (fBool (eOp g fa fb)) :=
  PT.weak (pt_cmpR ho ha hb hm) fun σ H Q h => tv_op hg σ H _ (tvT_bool σ H Q h)
def fNot (f : FT) : FT := fun en => match f en with
  | some (b, en1) => some (!b, en1)
  | none => none
theorem vt_not (ha : VT X P a ta) : VT X P (.UnaryOp .Not a pos) (fNot ta) := by
  refine PT.weak (pt_not ha) fun σ H Q h => ?_
  obtain ⟨Bf, ow, en, k, b, en', hf, q⟩ := h
  unfold fNot at hf
  split at hf
  · rename_i b' en1 h1
    cases hf
    exact ⟨Bf, ow, en, k, _, _, h1, fun ow1 H1 k1 r1 => q ow1 H1 k1 r1⟩
  · cases hf
def fAnd (f g : FT) : FT := fun en => match f en with
  | some (true, en1) => g en1
  | some (false, en1) => some (false, en1)
  | none => none
def fOr (f g : FT) : FT := fun en => match f en with
  | some (true, en1) => some (true, en1)
  | some (false, en1) => g en1
  | none => none
theorem vw_and1 (ha : VT X P a ta) : VW X P (.BoolOp .And [a] pos) ta := pw_and1 ha
theorem vw_or1 (ha : VT X P a ta) : VW X P (.BoolOp .Or [a] pos) ta := pw_or1 ha
theorem vw_and (ha : VT X P a ta) (hb : VW X P (.BoolOp .And (b :: rest) pos) tb) : VW X P (.BoolOp .And (a :: b :: rest) pos) (fAnd ta tb) := by
  refine PW.weak (pw_and ha hb) fun σ H Q h => ?_
  obtain ⟨Bf, ow, en, k, b, en', hf, q⟩ := h
  unfold fAnd at hf
  split at hf
  · rename_i en1 h1
    exact ⟨Bf, ow, en, k, _, _, h1, fun ow1 H1 k1 r1 => ⟨Bf, ow1, en1, k1, b, en', hf, fun ow2 H2 k2 r2 => q ow2 H2 k2 (r1.trans r2)⟩⟩
  · rename_i en1 h1
    cases hf
    exact ⟨Bf, ow, en, k, _, _, h1, fun ow1 H1 k1 r1 => q ow1 H1 k1 r1⟩
  · cases hf
theorem vw_or (ha : VT X P a ta) (hb : VW X P (.BoolOp .Or (b :: rest) pos) tb) : VW X P (.BoolOp .Or (a :: b :: rest) pos) (fOr ta tb) := by
  refine PW.weak (pw_or ha hb) fun σ H Q h => ?_
  obtain ⟨Bf, ow, en, k, b, en', hf, q⟩ := h
  unfold fOr at hf
  split at hf
  · rename_i en1 h1
    cases hf
    exact ⟨Bf, ow, en, k, _, _, h1, fun ow1 H1 k1 r1 => q ow1 H1 k1 r1⟩
  · rename_i en1 h1
    exact ⟨Bf, ow, en, k, _, _, h1, fun ow1 H1 k1 r1 => ⟨Bf, ow1, en1, k1, b, en', hf, fun ow2 H2 k2 r2 => q ow2 H2 k2 (r1.trans r2)⟩⟩
  · cases hf
theorem vt_bop (h : VW X P e ta) : VT X P e ta := h.pt

/-! ### and, or, not, if as values -/
def eAnd (f g : FE) : FE := fun en => match f en with
  | some (.bool true, en1) => g en1
  | some (.bool false, en1) => some (.bool false, en1)
  | _ => none
def eOr (f g : FE) : FE := fun en => match f en with
  | some (.bool true, en1) => some (.bool true, en1)
  | some (.bool false, en1) => g en1
  | _ => none
def eNot (f : FE) : FE := fun en => match f en with
  | some (.bool b, en1) => some (.bool (!b), en1)
  | _ => none
theorem ve_one {op} (h : VE X P a fa) : VE X P (.BoolOp op [a] pos) fa := pe_one h
theorem ve_and (ha : VE X P a fa) (hb : VE X P (.BoolOp .And (b :: rest) pos) fb) : VE X P (.BoolOp .And (a :: b :: rest) pos) (eAnd fa fb) := by
  refine PE.weak (pe_and ha hb) fun σ H Q h => ?_
  obtain ⟨Bf, ow, en, k, d, en', hf, q⟩ := h
  unfold eAnd at hf
  split at hf
  · rename_i en1 h1
    exact ⟨Bf, ow, en, k, _, _, h1, fun v ow1 H1 k1 r1 p1 => by
      cases p1
      exact ⟨true, rfl, Bf, ow1, en1, k1, d, en', hf, fun v ow2 H2 k2 r2 p2 => q v ow2 H2 k2 (r1.trans r2) p2⟩⟩
  · rename_i en1 h1
    cases hf
    exact ⟨Bf, ow, en, k, _, _, h1, fun v ow1 H1 k1 r1 p1 => by
      cases p1
      exact ⟨false, rfl, q _ ow1 H1 k1 r1 (.bl false)⟩⟩
  · cases hf
theorem ve_or (ha : VE X P a fa) (hb : VE X P (.BoolOp .Or (b :: rest) pos) fb) : VE X P (.BoolOp .Or (a :: b :: rest) pos) (eOr fa fb) := by
  refine PE.weak (pe_or ha hb) fun σ H Q h => ?_
  obtain ⟨Bf, ow, en, k, d, en', hf, q⟩ := h
  unfold eOr at hf
  split at hf
  · rename_i en1 h1
    cases hf
    exact ⟨Bf, ow, en, k, _, _, h1, fun v ow1 H1 k1 r1 p1 => by
      cases p1
      exact ⟨true, rfl, q _ ow1 H1 k1 r1 (.bl true)⟩⟩
  · rename_i en1 h1
    exact ⟨Bf, ow, en, k, _, _, h1, fun v ow1 H1 k1 r1 p1 => by
      cases p1
      exact ⟨false, rfl, Bf, ow1, en1, k1, d, en', hf, fun v ow2 H2 k2 r2 p2 => q v ow2 H2 k2 (r1.trans r2) p2⟩⟩
  · cases hf
theorem ve_not (ha : VE X P a fa) : VE X P (.UnaryOp .Not a pos) (eNot fa) := by
  refine PE.weak (pe_not ha) fun σ H Q h => ?_
  obtain ⟨Bf, ow, en, k, d, en', hf, q⟩ := h
  unfold eNot at hf
  split at hf
  · rename_i b en1 h1
    cases hf
    exact ⟨Bf, ow, en, k, _, _, h1, fun v ow1 H1 k1 r1 p1 => by
      cases p1
      exact ⟨_, rfl, q _ ow1 H1 k1 r1 (.bl _)⟩⟩
  · cases hf
def eNeg (f : FE) : FE := fun en => match f en with
  | some (.int b, en1) => some (.int (-b), en1)
  | _ => none
theorem ve_neg (ha : VE X P a fa) : VE X P (.UnaryOp .USub a pos) (eNeg fa) := by
  refine PE.weak (pe_un un_neg ha) fun σ H Q h => ?_
  obtain ⟨Bf, ow, en, k, d, en', hf, q⟩ := h
  unfold eNeg at hf
  split at hf
  · rename_i b en1 h1
    cases hf
    exact ⟨Bf, ow, en, k, _, _, h1, fun v ow1 H1 k1 r1 p1 => by
      cases p1
      exact ⟨_, rfl, q _ ow1 H1 k1 r1 (.int _)⟩⟩
  · cases hf
def eIf (t : FT) (f g : FE) : FE := fun en => match t en with
  | some (true, en1) => f en1
  | some (false, en1) => g en1
  | none => none
theorem ve_if (hc : VT X P c ta) (ha : VE X P a fa) (hb : VE X P b fb) : VE X P (.IfExp c a b pos) (eIf ta fa fb) := by
  refine PE.weak (pe_ifExp hc ha hb) fun σ H Q h => ?_
  obtain ⟨Bf, ow, en, k, d, en', hf, q⟩ := h
  unfold eIf at hf
  split at hf
  · rename_i en1 h1
    exact ⟨Bf, ow, en, k, _, _, h1, fun ow1 H1 k1 r1 => ⟨Bf, ow1, en1, k1, d, en', hf, fun v ow2 H2 k2 r2 p2 => q v ow2 H2 k2 (r1.trans r2) p2⟩⟩
  · rename_i en1 h1
    exact ⟨Bf, ow, en, k, _, _, h1, fun ow1 H1 k1 r1 => ⟨Bf, ow1, en1, k1, d, en', hf, fun v ow2 H2 k2 r2 p2 => q v ow2 H2 k2 (r1.trans r2) p2⟩⟩
  · cases hf
/-- a op1 b op2 c -/
def eChain (g g' : D → D → Option D) (fa fb fc : FE) : FE := fun en => match fa en with
  | some (x, en1) => match fb en1 with
    | some (y, en2) => match g x y with
      | some (.bool true) => match fc en2 with
        | some (z, en3) => match g' y z with
          | some u => some (u, en3)
          | none => none
        | none => none
      | some (.bool false) => some (.bool false, en2)
      | _ => none
    | none => none
  | none => none
theorem tv_chain {r r' : R2} {g g' : D → D → Option D} (hg : OpV r g) (hg' : OpV r' g') (σ : L2.St) (H : Hp) (Q : VK) (h : tv P (eChain g g' fa fb fc) σ H Q) : tChain r r' (tv P fa) (tv P fb) (tv P fc) σ H Q := by
  obtain ⟨Bf, ow, en, k, d, en', hf, q⟩ := h
  unfold eChain at hf
  split at hf <;> first | cases hf | skip
  rename_i x en1 h1
  split at hf <;> first | cases hf | skip
  rename_i y en2 h2
  refine ⟨Bf, ow, en, k, x, en1, h1, fun v1 ow1 H1 k1 r1 p1 => ⟨Bf, ow1, en1, k1, y, en2, h2, fun v2 ow2 H2 k2 r2 p2 => ?_⟩⟩
  split at hf
  · rename_i h3
    split at hf <;> first | cases hf | skip
    rename_i z en3 h4
    split at hf <;> first | cases hf | skip
    rename_i u h5
    refine hg H2 (blk Bf ow2) x y _ v1 v2 _ h3 (r2.rp p1) p2 (fun p hp => k2.nb hp) fun v H3 ex p => ?_
    cases p
    refine ⟨true, rfl, ?_⟩
    rw [if_pos rfl]
    refine ⟨Bf, ow2, en2, k2.ext ex, z, _, h4, fun v3 ow3 H4 k4 r4 p4 => ?_⟩
    refine hg' H4 (blk Bf ow3) y z _ v2 v3 Q h5 (r4.rp (ex.rp p2)) p4 (fun p hp => k4.nb hp) fun v H5 ex' p => ?_
    exact q v ow3 H5 (k4.ext ex') ((((r1.trans r2).trans ex.rel).trans r4).trans ex'.rel) p
  · rename_i h3
    cases hf
    refine hg H2 (blk Bf ow2) x y _ v1 v2 _ h3 (r2.rp p1) p2 (fun p hp => k2.nb hp) fun v H3 ex p => ?_
    cases p
    refine ⟨false, rfl, ?_⟩
    rw [if_neg (by decide)]
    exact q _ ow2 H3 (k2.ext ex) ((r1.trans r2).trans ex.rel) (.bl false)
  · cases hf
theorem ve_chain {op op' : CmpOp} {r r' : R2} {g g' : D → D → Option D} (ho : OpR X (compareOp op) r) (ho' : OpR X (compareOp op') r') (hg : OpV r g) (hg' : OpV r' g') (ha : VE X P a fa) (hb : VE X P b fb) (hc : VE X P c fc)
    (hm : lastMarks [op, op'] [b, c] = false := by with_unfolding_all rfl) : VE X P (.Compare a [op, op'] [b, c] pos) (eChain g g' fa fb fc) :=
  PE.weak (pe_chain ho ho' ha hb hc hm) (tv_chain hg hg')
theorem vt_chain {op op' : CmpOp} {r r' : R2} {g g' : D → D → Option D} (ho : OpR X (compareOp op) r) (ho' : OpR X (compareOp op') r') (hg : OpV r g) (hg' : OpV r' g') (ha : VE X P a fa) (hb : VE X P b fb) (hc : VE X P c fc)
    (hm : lastMarks [op, op'] [b, c] = false := by with_unfolding_all rfl) : VT X P (.Compare a [op, op'] [b, c] pos) (fBool (eChain g g' fa fb fc)) :=
  PT.weak (pt_chain ho ho' ha hb hc hm) fun σ H Q h => tv_chain hg hg' σ H _ (tvT_bool σ H Q h)

/-! ### argument lists -/
abbrev FA := En → Option (List D × En)
def tvA (P : Pl) (f : FA) : TA := fun σ H Q => ∃ Bf ow en, Ok P Bf ow en σ H ∧ ∃ ds en', f en = some (ds, en') ∧
  ∀ vs ow' H', Ok P Bf ow' en' σ H' → Rel P H ow H' ow' → RpL H' (blk Bf ow') ds vs → Q vs H'
def VA (X : Cx) (P : Pl) (es : List Expr) (f : FA) : Prop := PA X es (tvA P f)
theorem PA.weak {X : Cx} {e : List Expr} {t t' : TA} (h : PA X e t) (w : ∀ σ H Q, t' σ H Q → t σ H Q) : PA X e t' :=
  ⟨fun pos pins s σ H Q I q => h.run pos pins s σ H Q I (w σ H Q q)⟩
def aNil : FA := fun en => some ([], en)
def aCons (f : FE) (g : FA) : FA := fun en => match f en with
  | some (d, en1) => match g en1 with
    | some (ds, en2) => some (d :: ds, en2)
    | none => none
  | none => none
variable {es : List Expr} {ga : FA}
theorem va_nil : VA X P [] aNil := by
  refine PA.weak pa_nil fun σ H Q h => ?_
  obtain ⟨Bf, ow, en, k, d, en', hf, q⟩ := h
  cases hf
  exact q [] ow H k .refl .nil
theorem va_cons (ha : VE X P e fa) (hr : VA X P es ga) (hs : starEach (e :: es) X.env = (false, eval e X.env) :: starEach es X.env := by rfl) : VA X P (e :: es) (aCons fa ga) := by
  refine PA.weak (pa_cons ha hr hs) fun σ H Q h => ?_
  obtain ⟨Bf, ow, en, k, d, en', hf, q⟩ := h
  unfold aCons at hf
  split at hf <;> first | cases hf | skip
  rename_i d1 en1 h1
  split at hf <;> first | cases hf | skip
  rename_i ds en2 h2
  exact ⟨Bf, ow, en, k, _, _, h1, fun v1 ow1 H1 k1 r1 p1 => ⟨Bf, ow1, en1, k1, _, _, h2, fun vs ow2 H2 k2 r2 p2 => q _ ow2 H2 k2 (r1.trans r2) (.cons (r2.rp p1) p2)⟩⟩

/-! ### displays -/
def eTup (f : FA) : FE := fun en => match f en with
  | some (ds, en1) => if ds.length ≤ sizeLine then some (.tuple ds, en1) else none
  | none => none
def eLst (f : FA) : FE := fun en => match f en with
  | some (ds, en1) => if ds.length ≤ sizeLine then some (.list ds, en1) else none
  | none => none
theorem ve_tup {x1} (h : VA X P es ga) : VE X P (.Tuple es x1 pos) (eTup ga) := by
  refine PE.weak (pe_tup h) fun σ H Q h => ?_
  obtain ⟨Bf, ow, en, k, d, en', hf, q⟩ := h
  unfold eTup at hf
  split at hf <;> first | cases hf | skip
  rename_i ds en1 h1
  split at hf <;> first | cases hf | skip
  rename_i hz
  exact ⟨Bf, ow, en, k, _, _, h1, fun vs ow1 H1 k1 r1 p1 => ⟨by rw [← p1.length]; exact hz, fun p hp => q _ ow1 _ (k1.ext (.upd hp)) (r1.trans (Ext.upd hp).rel) (.tup (k1.nb hp) upd_same ((Ext.upd hp).rpl p1))⟩⟩
theorem ve_lst (h : VA X P es ga) : VE X P (.List es pos) (eLst ga) := by
  refine PE.weak (pe_lst h) fun σ H Q h => ?_
  obtain ⟨Bf, ow, en, k, d, en', hf, q⟩ := h
  unfold eLst at hf
  split at hf <;> first | cases hf | skip
  rename_i ds en1 h1
  split at hf <;> first | cases hf | skip
  rename_i hz
  exact ⟨Bf, ow, en, k, _, _, h1, fun vs ow1 H1 k1 r1 p1 => ⟨by rw [← p1.length]; exact hz, fun p hp => q _ ow1 _ (k1.ext (.upd hp)) (r1.trans (Ext.upd hp).rel) (.lst (k1.nb hp) (.inl upd_same) ((Ext.upd hp).rpl p1))⟩⟩

/-! ### calls of built-ins, pure -/
def CaV (r : List V → Hp → VK → Prop) (g : List D → Option D) : Prop := ∀ (H : Hp) (B : Addr → Prop) (ds : List D) (d : D) (vs : List V) (Q : VK), g ds = some d → RpL H B ds vs → (∀ p, H p = none → ¬ B p) →
  (∀ v H', Ext H H' → Rp H' B d v → Q v H') → r vs H Q
def eCall (g : List D → Option D) (f : FA) : FE := fun en => match f en with
  | some (ds, en1) => match g ds with
    | some d => some (d, en1)
    | none => none
  | none => none
theorem tv_call {r : List V → Hp → VK → Prop} {g : List D → Option D} (hg : CaV r g) (σ : L2.St) (H : Hp) (Q : VK) (h : tv P (eCall g ga) σ H Q) : tCB r (tvA P ga) σ H Q := by
  obtain ⟨Bf, ow, en, k, d, en', hf, q⟩ := h
  unfold eCall at hf
  split at hf <;> first | cases hf | skip
  rename_i ds en1 h1
  split at hf <;> first | cases hf | skip
  rename_i d' h2
  exact ⟨Bf, ow, en, k, _, _, h1, fun vs ow1 H1 k1 r1 p1 => hg H1 (blk Bf ow1) ds _ vs Q h2 p1 (fun p hp => k1.nb hp) fun v H' ex p => q v ow1 H' (k1.ext ex) (r1.trans ex.rel) p⟩
theorem ve_callB {id : String} {x : Str} {p : Pos} {r : List V → Hp → VK → Prop} {g : List D → Option D} (hc : CallR X (.builtin id) r) (hgv : CaV r g) (hg : Gl X x) (hm : X.mg x = none) (hv : bootBuiltins x = some (.builtin id)) (ha : VA X P (e :: es) ga)
    (hn : x ≠ "__name__" := by decide) (hdb : (x == ("__debug__" : Str)) = false := by decide)
    (he : starEach (e :: es) X.env = (false, eval e X.env) :: starEach es X.env := by rfl) (hpl : (backTo pos (starEach es X.env)).any (·.1) = false := by rfl) : VE X P (.Call (.Name x p) (e :: es) [] pos) (eCall g ga) :=
  PE.weak (pe_callB hc hg hm hv ha hn hdb he hpl) (tv_call hgv)
theorem ve_callTy {T : String} {x : Str} {p : Pos} {r : List V → Hp → VK → Prop} {g : List D → Option D} (hc : CallR X (.type T) r) (hgv : CaV r g) (hg : Gl X x) (hm : X.mg x = none) (hv : bootBuiltins x = some (.type T)) (ha : VA X P (e :: es) ga)
    (hn : x ≠ "__name__" := by decide) (hdb : (x == ("__debug__" : Str)) = false := by decide)
    (he : starEach (e :: es) X.env = (false, eval e X.env) :: starEach es X.env := by rfl) (hpl : (backTo pos (starEach es X.env)).any (·.1) = false := by rfl) : VE X P (.Call (.Name x p) (e :: es) [] pos) (eCall g ga) :=
  PE.weak (pe_callTy hc hg hm hv ha hn hdb he hpl) (tv_call hgv)
end
end VL

namespace VL
open PySem PySem.Spec
open PyProof.Rows L2

/-! ### statements -/
inductive Out where
  | nx (en : En) | bk (en : En) | ct (en : En) | rt (d : D) (en : En) | rf (ds : List D) (en : En)
abbrev FS := En → Option Out
/-- .. across statements: slots may get lists of their own -/
structure RelS (P : Pl) (H : Hp) (ow : Nat → Option Addr) (H' : Hp) (ow' : Nat → Option Addr) : Prop where
  hkeep : ∀ b o, H b = some o → NT o → (∀ i, ow i ≠ some b) → H' b = some o ∧ (∀ i, ow' i ≠ some b)
  hsome : ∀ b, H b ≠ none → H' b ≠ none
  hpin : ∀ i, i ∈ P → ow' i = ow i
section
variable {P : Pl} {Bf : Bk} {ow ow' ow1 : Nat → Option Addr} {H H' H1 : Hp}
theorem Rel.s (a : Rel P H ow H' ow') : RelS P H ow H' ow' := ⟨a.hkeep, a.hsome, a.hpin⟩
theorem RelS.refl : RelS P H ow H ow := Rel.refl.s
theorem RelS.trans (a : RelS P H ow H1 ow1) (b : RelS P H1 ow1 H' ow') : RelS P H ow H' ow' :=
  ⟨fun x o e t n => b.hkeep x o (a.hkeep x o e t n).1 t (a.hkeep x o e t n).2, fun x e => b.hsome x (a.hsome x e), fun i hi => (b.hpin i hi).trans (a.hpin i hi)⟩
theorem RelS.mv (a : RelS P H ow H' ow') : ∀ b o, H b = some o → NT o → ¬ blk Bf ow b → H' b = some o ∧ ¬ blk Bf ow' b := fun b o e t n => by
  have h := a.hkeep b o e t fun i z => n (.inr ⟨i, z⟩)
  exact ⟨h.1, fun z => z.elim (fun z => n (.inl z)) fun ⟨i, z⟩ => h.2 i z⟩
theorem RelS.rp (a : RelS P H ow H' ow') {d : D} {v : V} (r : Rp H (blk Bf ow) d v) : Rp H' (blk Bf ow') d v := r.move a.mv
theorem RelS.rpl (a : RelS P H ow H' ow') {d : List D} {v : List V} (r : RpL H (blk Bf ow) d v) : RpL H' (blk Bf ow') d v := r.move a.mv
end
def post (P : Pl) (Bf : Bk) (Dn : Ends) (H : Hp) (ow : Nat → Option Addr) : Out → Prop
  | .nx en' => ∀ ow' σ' H', Ok P Bf ow' en' σ' H' → RelS P H ow H' ow' → Dn.nx σ' H'
  | .bk en' => ∀ ow' σ' H', Ok P Bf ow' en' σ' H' → RelS P H ow H' ow' → Dn.bk σ' H'
  | .ct en' => ∀ ow' σ' H', Ok P Bf ow' en' σ' H' → RelS P H ow H' ow' → Dn.ct σ' H'
  | .rt d en' => ∀ ow' σ' H' v, Ok P Bf ow' en' σ' H' → RelS P H ow H' ow' → Rp H' (blk Bf ow') d v → Dn.rt v H'
  | .rf ds en' => ∀ ow' σ' H' p xs, Ok P (insB Bf p) ow' en' σ' H' → RelS P H ow H' ow' → ¬ Bf.bl p → ¬ Bf.od p → (∀ i, ow' i ≠ some p) → H' p = some (.lst xs) → RpL H' (blk (insB Bf p) ow') ds xs → Dn.rt (.ref p) H'
def tvS (P : Pl) (f : FS) : TS := fun Dn σ H => ∃ Bf ow en, Ok P Bf ow en σ H ∧ ∃ o, f en = some o ∧ post P Bf Dn H ow o
def VS (X : Cx) (P : Pl) (st : Stmt) (f : FS) : Prop := PS X st (tvS P f)
def VB (X : Cx) (P : Pl) (st : List Stmt) (f : FS) : Prop := PSs X st (tvS P f)
theorem PS.weak {X : Cx} {st : Stmt} {t t' : TS} (h : PS X st t) (w : ∀ Dn σ H, t' Dn σ H → t Dn σ H) : PS X st t' :=
  ⟨fun pins s σ H Dn I q => h.run pins s σ H Dn I (w Dn σ H q)⟩
theorem PSs.weak {X : Cx} {st : List Stmt} {t t' : TS} (h : PSs X st t) (w : ∀ Dn σ H, t' Dn σ H → t Dn σ H) : PSs X st t' :=
  ⟨fun pins s σ H Dn I q => h.run pins s σ H Dn I (w Dn σ H q)⟩
theorem post.trans {P : Pl} {Bf : Bk} {Dn : Ends} {H H1 : Hp} {ow ow1 : Nat → Option Addr} {o : Out} (h : post P Bf Dn H ow o) (r : RelS P H ow H1 ow1) : post P Bf Dn H1 ow1 o := by
  cases o with
  | nx en => exact fun ow' σ' H' k r' => h ow' σ' H' k (r.trans r')
  | bk en => exact fun ow' σ' H' k r' => h ow' σ' H' k (r.trans r')
  | ct en => exact fun ow' σ' H' k r' => h ow' σ' H' k (r.trans r')
  | rt d en => exact fun ow' σ' H' v k r' p => h ow' σ' H' v k (r.trans r') p
  | rf d en => exact fun ow' σ' H' p xs k r' => h ow' σ' H' p xs k (r.trans r')

section
variable {X : Cx} {P : Pl} {a b c e : Expr} {st : Stmt} {rest as bs : List Stmt} {fa fb fc : FE} {ta tb : FT} {f g : FS} {pos : Pos}
def sNil : FS := fun en => some (.nx en)
def sSeq (f g : FS) : FS := fun en => match f en with
  | some (.nx en1) => g en1
  | some (.bk en1) => some (.bk en1)
  | some (.ct en1) => some (.ct en1)
  | some (.rt d en1) => some (.rt d en1)
  | some (.rf d en1) => some (.rf d en1)
  | none => none
theorem vb_nil : VB X P [] sNil := PSs.weak pss_nil fun Dn σ H h => by
  obtain ⟨Bf, ow, en, k, o, hf, q⟩ := h
  cases hf
  exact q ow σ H k .refl
theorem vb_cons (h1 : VS X P st f) (h2 : VB X P rest g) : VB X P (st :: rest) (sSeq f g) := PSs.weak (pss_cons h1 h2) fun Dn σ H h => by
  obtain ⟨Bf, ow, en, k, o, hf, q⟩ := h
  unfold sSeq at hf
  split at hf
  · rename_i en1 h1
    exact ⟨Bf, ow, en, k, _, h1, fun ow1 σ1 H1 k1 r1 => ⟨Bf, ow1, en1, k1, o, hf, q.trans r1⟩⟩
  · rename_i en1 h1
    cases hf
    exact ⟨Bf, ow, en, k, _, h1, q⟩
  · rename_i en1 h1
    cases hf
    exact ⟨Bf, ow, en, k, _, h1, q⟩
  · rename_i d en1 h1
    cases hf
    exact ⟨Bf, ow, en, k, _, h1, q⟩
  · rename_i d en1 h1
    cases hf
    exact ⟨Bf, ow, en, k, _, h1, q⟩
  · cases hf
theorem vb_one (h1 : VS X P st f) : VB X P [st] f := pss_one h1
def sBrk : FS := fun en => some (.bk en)
def sCnt : FS := fun en => some (.ct en)
theorem vs_pass : VS X P (.Pass pos) sNil := PS.weak ps_pass fun Dn σ H h => by
  obtain ⟨Bf, ow, en, k, o, hf, q⟩ := h
  cases hf
  exact q ow σ H k .refl
theorem vs_break : VS X P (.Break pos) sBrk := PS.weak ps_break fun Dn σ H h => by
  obtain ⟨Bf, ow, en, k, o, hf, q⟩ := h
  cases hf
  exact q ow σ H k .refl
theorem vs_continue : VS X P (.Continue pos) sCnt := PS.weak ps_continue fun Dn σ H h => by
  obtain ⟨Bf, ow, en, k, o, hf, q⟩ := h
  cases hf
  exact q ow σ H k .refl
theorem vs_doc {x j pos pos'} : VS X P (.Expr (.Constant (.str x) j pos) pos') sNil := PS.weak ps_doc fun Dn σ H h => by
  obtain ⟨Bf, ow, en, k, o, hf, q⟩ := h
  cases hf
  exact q ow σ H k .refl
def sNever : FS := fun _ => none
theorem vs_never : VS X P st sNever := PS.weak ps_never fun Dn σ H h => by
  obtain ⟨Bf, ow, en, k, o, hf, q⟩ := h
  cases hf
def sDrop (f : FE) : FS := fun en => match f en with
  | some (_, en1) => some (.nx en1)
  | none => none
theorem vs_expr (he : VE X P e fa) (hs : swapsWith e none pos.line X.env = pure false := by rfl) : VS X P (.Expr e pos) (sDrop fa) := PS.weak (ps_expr he hs) fun Dn σ H h => by
  obtain ⟨Bf, ow, en, k, o, hf, q⟩ := h
  unfold sDrop at hf
  split at hf <;> first | cases hf | skip
  rename_i d en1 h1
  exact ⟨Bf, ow, en, k, _, _, h1, fun v ow1 H1 k1 r1 p1 => q ow1 σ H1 k1 r1.s⟩
def sRet (f : FE) : FS := fun en => match f en with
  | some (d, en1) => some (.rt d en1)
  | none => none
theorem vs_ret (he : VE X P e fa) : VS X P (.Return (some e) pos) (sRet fa) := PS.weak (ps_ret he) fun Dn σ H h => by
  obtain ⟨Bf, ow, en, k, o, hf, q⟩ := h
  unfold sRet at hf
  split at hf <;> first | cases hf | skip
  rename_i d en1 h1
  exact ⟨Bf, ow, en, k, _, _, h1, fun v ow1 H1 k1 r1 p1 => q ow1 σ H1 v k1 r1.s p1⟩
def sRetN : FS := fun en => some (.rt .none en)
theorem vs_retN : VS X P (.Return none pos) sRetN := PS.weak ps_retN fun Dn σ H h => by
  obtain ⟨Bf, ow, en, k, o, hf, q⟩ := h
  cases hf
  exact q ow σ H .non k .refl .non
def sIf (t : FT) (f g : FS) : FS := fun en => match t en with
  | some (true, en1) => f en1
  | some (false, en1) => g en1
  | none => none
theorem vs_if (hc : VT X P c ta) (ha : VB X P as f) (hb : VB X P bs g) : VS X P (.If c as bs pos) (sIf ta f g) := PS.weak (ps_if hc ha hb) fun Dn σ H h => by
  obtain ⟨Bf, ow, en, k, o, hf, q⟩ := h
  unfold sIf at hf
  split at hf
  · rename_i en1 h1
    exact ⟨Bf, ow, en, k, _, _, h1, fun ow1 H1 k1 r1 => ⟨Bf, ow1, en1, k1, o, hf, q.trans r1.s⟩⟩
  · rename_i en1 h1
    exact ⟨Bf, ow, en, k, _, _, h1, fun ow1 H1 k1 r1 => ⟨Bf, ow1, en1, k1, o, hf, q.trans r1.s⟩⟩
  · cases hf

/-! ### stores -/
variable {ow : Nat → Option Addr} {en : En} {σ : L2.St} {H : Hp} {Bf : Bk}
def sSet (i : Nat) (f : FE) : FS := fun en => match f en with
  | some (d, en1) => some (.nx (en1.set i (.va d)))
  | none => none
theorem vs_set {i : Nat} {x : Str} {pos' : Pos} (hN : X.N.Nodup) (hi : X.N[i]? = some x) (hx : Loc X.env.scope x := by first | exact .inl rfl | exact .inr rfl) (hP : i ∉ P) (he : VE X P e fa) (hs : swapsWith e (some (.Name x pos')) pos.line X.env = pure false := by rfl)
    (hf : X.fn x = true ∨ X.env.scope.names.lookup x = some .local := by first | exact .inl rfl | exact .inr rfl | assumption) : VS X P (.Assign [.Name x pos'] e pos) (sSet i fa) :=
  PS.weak (ps_set hN hi hx he hs hf) fun Dn σ H h => by
    obtain ⟨Bf, ow, en, k, o, hf, q⟩ := h
    unfold sSet at hf
    split at hf <;> first | cases hf | skip
    rename_i d en1 h1
    refine ⟨Bf, ow, en, k, _, _, h1, fun v ow1 H1 k1 r1 p1 => ?_⟩
    have p2 := p1.move (H' := H1) (B' := blk Bf (dropOw ow1 i)) fun b o e t n => ⟨e, fun z => n (dropOw_blk z)⟩
    exact q _ _ _ (k1.set hP p2) (r1.trans (dropOw_rel hP)).s

/-! ### targets -/
theorem wipe_set {x : Option V} {i : Nat} : ∀ (vs : List Nat) (σ : L2.St), wipe (σ.set i x) vs = if i ∈ vs then wipe σ vs else (wipe σ vs).set i x
  | [], σ => by simp [wipe]
  | v :: vs, σ => by
    unfold wipe
    rw [wipe_set vs σ]
    by_cases hv : i = v
    · subst hv
      by_cases h : i ∈ vs
      · simp [h]
      · simp [h, List.set_set]
    · by_cases h : i ∈ vs
      · simp [h]
      · simp [h, hv]
        exact List.set_comm _ _ hv
def Wp (ts : List Nat) (σ σ' : L2.St) : Prop := ∀ vs : List Nat, (∀ i ∈ ts, i ∈ vs) → wipe σ' vs = wipe σ vs
abbrev FG := D → En → Option En
def tvG (P : Pl) (ts : List Nat) (g : FG) : TG := fun v σ H Q => ∃ Bf ow en d, Ok P Bf ow en σ H ∧ Rp H (blk Bf ow) d v ∧ ∃ en', g d en = some en' ∧ ∀ ow' σ', Ok P Bf ow' en' σ' H → Rel P H ow H ow' → Wp ts σ σ' → Q σ' H
def VG (X : Cx) (P : Pl) (t : Expr) (ts : List Nat) (g : FG) : Prop := PG X t (tvG P ts g)
theorem PG.weak {X : Cx} {e : Expr} {t t' : TG} (h : PG X e t) (w : ∀ v σ H Q, t' v σ H Q → t v σ H Q) : PG X e t' :=
  ⟨fun pins s σ H v u Q I r q => h.run pins s σ H v u Q I r (w v σ H Q q)⟩
theorem PGs.weak {X : Cx} {e : List Expr} {t t' : TGs} (h : PGs X e t) (w : ∀ v σ H Q, t' v σ H Q → t v σ H Q) : PGs X e t' :=
  ⟨fun pins s σ H v u Q I r q => h.run pins s σ H v u Q I r (w v σ H Q q)⟩
def gNm (i : Nat) : FG := fun d en => some (en.set i (.va d))
theorem vg_name {i : Nat} {x : Str} (hN : X.N.Nodup) (hi : X.N[i]? = some x) (hx : Loc X.env.scope x := by first | exact .inl rfl | exact .inr rfl) (hP : i ∉ P) (hf : X.fn x = true ∨ X.env.scope.names.lookup x = some .local := by first | exact .inl rfl | exact .inr rfl | assumption) : VG X P (.Name x pos) [i] (gNm i) :=
  PG.weak (pg_name hN hi hx hf) fun v σ H Q h => by
    obtain ⟨Bf, ow, en, d, k, p, en', hg, q⟩ := h
    cases hg
    have p2 := p.move (H' := H) (B' := blk Bf (dropOw ow i)) fun b o e t n => ⟨e, fun z => n (dropOw_blk z)⟩
    exact q _ _ (k.set hP p2) (dropOw_rel hP) fun vs hv => by rw [wipe_set, if_pos (hv i (by simp))]
abbrev FGs := List D → En → Option En
def tvGs (P : Pl) (ts : List Nat) (g : FGs) : TGs := fun vs σ H Q => ∃ Bf ow en ds, Ok P Bf ow en σ H ∧ RpL H (blk Bf ow) ds vs ∧ ∃ en', g ds en = some en' ∧ ∀ ow' σ', Ok P Bf ow' en' σ' H → Rel P H ow H ow' → Wp ts σ σ' → Q σ' H
def VGs (X : Cx) (P : Pl) (t : List Expr) (ts : List Nat) (g : FGs) : Prop := PGs X t (tvGs P ts g)
def gsNil : FGs := fun ds en => match ds with
  | [] => some en
  | _ => none
def gsCons (g : FG) (h : FGs) : FGs := fun ds en => match ds with
  | d :: r => match g d en with
    | some en1 => h r en1
    | none => none
  | [] => none
theorem vgs_nil : VGs X P [] [] gsNil := PGs.weak pgs_nil fun v σ H Q h => by
  obtain ⟨Bf, ow, en, ds, k, p, en', hg, q⟩ := h
  unfold gsNil at hg
  split at hg <;> first | cases hg | skip
  cases p
  exact ⟨rfl, q _ _ k .refl fun _ _ => rfl⟩
theorem vgs_cons {es : List Expr} {g1 : FG} {g2 : FGs} {t1 t2 : List Nat} (h1 : VG X P e t1 g1) (h2 : VGs X P es t2 g2) (hs : (assignEach (e :: es) X.env).map (·.2) = assign e X.env :: (assignEach es X.env).map (·.2) := by rfl) : VGs X P (e :: es) (t1 ++ t2) (gsCons g1 g2) :=
  PGs.weak (pgs_cons h1 h2 hs) fun v σ H Q h => by
    obtain ⟨Bf, ow, en, ds, k, p, en', hg, q⟩ := h
    unfold gsCons at hg
    split at hg <;> first | cases hg | skip
    rename_i d r
    split at hg <;> first | cases hg | skip
    rename_i en1 h1
    cases p with
    | cons p ps =>
      exact ⟨_, _, rfl, Bf, ow, en, d, k, p, en1, h1, fun ow1 σ1 k1 r1 w1 => ⟨Bf, ow1, en1, r, k1, r1.rpl ps, en', hg, fun ow2 σ2 k2 r2 w2 => q ow2 σ2 k2 (r1.trans r2) fun vs hv =>
        (w2 vs fun i hi => hv i (List.mem_append_right _ hi)).trans (w1 vs fun i hi => hv i (List.mem_append_left _ hi))⟩⟩
def gTp (n : Nat) (g : FGs) : FG := fun d en => match d with
  | .tuple ds => if ds.length = n then g ds en else none
  | _ => none
theorem vg_tup {es : List Expr} {k : Nat} {g : FGs} {n : Nat} {ts : List Nat} (hc : X.calm = true) (h : VGs X P es ts g) (hn : (assignEach es X.env).length = n := by rfl) (hst : (assignEach es X.env).findIdx? (·.1) = none := by rfl) : VG X P (.Tuple es k pos) ts (gTp n g) :=
  PG.weak (pg_tup hc h hn hst) fun v σ H Q h => by
    obtain ⟨Bf, ow, en, d, k, p, en', hg, q⟩ := h
    unfold gTp at hg
    split at hg <;> first | cases hg | skip
    split at hg <;> first | cases hg | skip
    rename_i hl
    cases p with
    | tup nb r rs => exact ⟨_, _, rfl, SqT.of r, by rw [← rs.length]; exact hl, Bf, ow, en, _, k, rs, en', hg, q⟩
def sAsg (f : FE) (g : FG) : FS := fun en => match f en with
  | some (d, en1) => match g d en1 with
    | some en2 => some (.nx en2)
    | none => none
  | none => none
theorem vs_asg {tg : Expr} {g : FG} {ts : List Nat} (he : VE X P e fa) (hg : VG X P tg ts g) (hs : swapsWithSole [tg] e pos.line X.env = pure false := by rfl) (hw : swappedStores [tg] e X.env = pure none := by rfl)
    (h1 : (assignEach [tg] X.env).map (·.2) = [assign tg X.env] := by rfl) : VS X P (.Assign [tg] e pos) (sAsg fa g) := PS.weak (ps_asg he hg hs hw h1) fun Dn σ H h => by
  obtain ⟨Bf, ow, en, k, o, hf, q⟩ := h
  unfold sAsg at hf
  split at hf <;> first | cases hf | skip
  rename_i d en1 h1
  split at hf <;> first | cases hf | skip
  rename_i en2 h2
  exact ⟨Bf, ow, en, k, _, _, h1, fun v ow1 H1 k1 r1 p1 => ⟨Bf, ow1, en1, d, k1, p1, en2, h2, fun ow2 σ2 k2 r2 _ => q _ _ _ k2 (r1.trans r2).s⟩⟩
end
end VL

namespace VL
open PySem PySem.Spec
open PyProof.Rows L2

/-! ### new lists -/
section
variable {P : Pl} {Bf : Bk} {ow ow' ow1 : Nat → Option Addr} {en en' : En} {σ σ' : L2.St} {H H' H1 : Hp} {p : Addr} {ds : List D} {xs : List V} {d : D} {v : V}
theorem insB_blk {b : Addr} (z : blk (insB Bf p) ow b) : blk Bf ow b ∨ b = p := by
  rcases z with (z | z) | z
  · exact .inl (.inl z)
  · exact .inr z
  · exact .inl (.inr z)
theorem blk_insB {b : Addr} (z : blk Bf ow b) : blk (insB Bf p) ow b := by
  rcases z with z | z
  · exact .inl (.inl z)
  · exact .inr z
/-- what is reached in H does not reach a new address -/
theorem Rp.avoid (hp : H p = none) (k : Ext H H') (r : Rp H (blk Bf ow) d v) : Rp H' (blk (insB Bf p) ow) d v := r.move fun b o e t n => ⟨k b o e, fun z => by
  rcases insB_blk z with z | z
  · exact n z
  · subst z
    rw [hp] at e
    cases e⟩
theorem RpL.avoid (hp : H p = none) (k : Ext H H') (r : RpL H (blk Bf ow) ds xs) : RpL H' (blk (insB Bf p) ow) ds xs := r.move fun b o e t n => ⟨k b o e, fun z => by
  rcases insB_blk z with z | z
  · exact n z
  · subst z
    rw [hp] at e
    cases e⟩
theorem insB_blkN {b : Addr} (z : blkN (insB Bf p) ow b) : blkN Bf ow b ∨ b = p := by
  rcases z with z | z
  · exact (insB_blk z).elim (fun z => .inl (.inl z)) .inr
  · exact .inl (.inr z)
theorem blkN_insB {b : Addr} (z : blkN Bf ow b) : blkN (insB Bf p) ow b := z.elim (fun z => .inl (blk_insB z)) .inr
theorem Rx.avoidN (hp : H p = none) (k : Ext H H') (r : Rx H (blkN Bf ow) d v) : Rx H' (blkN (insB Bf p) ow) d v := r.move fun b o e t n => ⟨k b o e, fun z => by
  rcases insB_blkN z with z | z
  · exact n z
  · subst z
    rw [hp] at e
    cases e⟩
theorem RpL.unins (r : RpL H (blk (insB Bf p) ow) ds xs) : RpL H (blk Bf ow) ds xs := r.move fun b o e t n => ⟨e, fun z => n (blk_insB z)⟩
theorem Rp.unins (r : Rp H (blk (insB Bf p) ow) d v) : Rp H (blk Bf ow) d v := r.move fun b o e t n => ⟨e, fun z => n (blk_insB z)⟩
theorem Ok.avoid (k : Ok P Bf ow en σ H) (hp : H p = none) {o : HO} : Ok P (insB Bf p) ow en σ (upd H p o) where
  hlen := k.hlen
  hva := fun i d e => let ⟨v, h1, h2⟩ := k.hva i d e; ⟨v, h1, h2.avoid hp (.upd hp)⟩
  hvn := fun i d e => let ⟨v, h1, h2⟩ := k.hvn i d e; ⟨v, h1, h2.avoidN hp (.upd hp)⟩
  hob := fun i s e f => let ⟨x, h1, h2, h3⟩ := k.hob i s e f; ⟨x, h1, h2, h3.move (fun o e _ => Ext.upd hp _ _ e) fun b o e t n => ⟨Ext.upd hp b o e, fun z => by
    rcases insB_blk z with z | z
    · exact n z
    · subst z
      rw [hp] at e
      cases e⟩⟩
  hdom := k.hdom
  hinj := k.hinj
  hbf := fun b h => by
    rcases h with h | h
    · exact (Ext.upd (o := o) hp).some b (k.hbf b h)
    · subst h
      rw [upd_same]
      exact fun z => nomatch z
  hod := fun b h => (Ext.upd (o := o) hp).some b (k.hod b h)
  hloc := fun i a e hi => by
    obtain ⟨h1, h2⟩ := k.hloc i a e hi
    refine ⟨fun z => ?_, h2⟩
    rcases z with z | z
    · exact h1 z
    · subst z
      obtain ⟨_, _, _, _, h3⟩ := k.hat e
      exact h3.ne hp
  htab := k.htab.ext (Ext.upd hp)
theorem Ok.unins (k : Ok P (insB Bf p) ow en σ H) : Ok P Bf ow en σ H where
  hlen := k.hlen
  hva := fun i d e => let ⟨v, h1, h2⟩ := k.hva i d e; ⟨v, h1, h2.unins⟩
  hvn := fun i d e => let ⟨v, h1, h2⟩ := k.hvn i d e; ⟨v, h1, h2.move fun b o e t n => ⟨e, fun z => n (blkN_insB z)⟩⟩
  hob := fun i s e f => let ⟨x, h1, h2, h3⟩ := k.hob i s e f; ⟨x, h1, h2, h3.move (fun o e _ => e) fun b o e t n => ⟨e, fun z => n (blk_insB z)⟩⟩
  hdom := k.hdom
  hinj := k.hinj
  hbf := fun b h => k.hbf b (.inl h)
  hod := k.hod
  hloc := fun i a e hi => ⟨fun z => (k.hloc i a e hi).1 (.inl z), (k.hloc i a e hi).2⟩
  htab := k.htab
def putOw (ow : Nat → Option Addr) (i : Nat) (p : Addr) : Nat → Option Addr := fun j => if j = i then some p else ow j
theorem putOw_blk {i : Nat} {b : Addr} (z : blk Bf (putOw ow i p) b) : blk (insB Bf p) ow b := by
  rcases z with z | ⟨j, z⟩
  · exact .inl (.inl z)
  · unfold putOw at z
    split at z
    · cases z
      exact .inl (.inr rfl)
    · exact .inr ⟨j, z⟩
/-- a slot gets an object of its own -/
theorem Ok.putO (k : Ok P (insB Bf p) ow en σ H) {i : Nat} {sl : Sl} (ho : isOwn sl = true) (hi : i ∉ P) (hl : i < en.length) (nb : ¬ Bf.bl p) (no : ¬ Bf.od p) (nw : ∀ j, ow j ≠ some p) (hp : OwnAt H (blk (insB Bf p) ow) p sl) :
    Ok P Bf (putOw ow i p) (en.set i sl) (σ.set i (some (.ref p))) H := by
  have mv : ∀ b o, H b = some o → NT o → ¬ blk (insB Bf p) ow b → H b = some o ∧ ¬ blk Bf (putOw ow i p) b := fun b o e t n => ⟨e, fun z => n (putOw_blk z)⟩
  have mvN : ∀ b o, H b = some o → NT o → ¬ blkN (insB Bf p) ow b → H b = some o ∧ ¬ blkN Bf (putOw ow i p) b := fun b o e t n => ⟨e, fun z => n (z.elim (fun z => .inl (putOw_blk z)) .inr)⟩
  refine ⟨by simp [k.hlen], fun j d' e => ?_, fun j d' e => ?_, fun j s' e f => ?_, fun j a e => ?_, fun j l a e1 e2 => ?_, fun b h => k.hbf b (.inl h), k.hod, fun j a e hj => ?_, k.htab⟩
  · by_cases hj : j = i
    · subst hj
      rw [List.getElem?_set_self hl] at e
      cases e
      cases ho
    · rw [List.getElem?_set_ne (Ne.symm hj)] at e ⊢
      obtain ⟨w, h1, h2⟩ := k.hva j d' e
      exact ⟨w, h1, h2.move mv⟩
  · by_cases hj : j = i
    · subst hj
      rw [List.getElem?_set_self hl] at e
      cases e
      cases ho
    · rw [List.getElem?_set_ne (Ne.symm hj)] at e ⊢
      obtain ⟨w, h1, h2⟩ := k.hvn j d' e
      exact ⟨w, h1, h2.move mvN⟩
  · by_cases hj : j = i
    · subst hj
      rw [List.getElem?_set_self hl] at e
      cases e
      exact ⟨p, by unfold putOw; rw [if_pos rfl], by rw [List.getElem?_set_self (by rw [k.hlen]; exact hl)], hp.move (fun o e _ => e) mv⟩
    · rw [List.getElem?_set_ne (Ne.symm hj)] at e ⊢
      obtain ⟨a, h1, h2, h3⟩ := k.hob j s' e f
      exact ⟨a, by unfold putOw; rw [if_neg hj]; exact h1, h2, h3.move (fun o e _ => e) mv⟩
  · unfold putOw at e
    split at e
    · rename_i hj
      subst hj
      exact ⟨sl, by rw [List.getElem?_set_self hl], ho⟩
    · rename_i hj
      rw [List.getElem?_set_ne (Ne.symm hj)]
      exact k.hdom j a e
  · unfold putOw at e1 e2
    split at e1
    · rename_i hj
      split at e2
      · rename_i hl'
        exact hj.trans hl'.symm
      · cases e1
        exact absurd e2 (nw l)
    · split at e2
      · cases e2
        exact absurd e1 (nw j)
      · exact k.hinj j l a e1 e2
  · unfold putOw at e
    split at e
    · cases e
      exact ⟨nb, no⟩
    · exact ⟨fun z => (k.hloc j a e hj).1 (.inl z), (k.hloc j a e hj).2⟩
/-- a slot gets a list of its own -/
theorem Ok.put (k : Ok P (insB Bf p) ow en σ H) {i : Nat} (hi : i ∉ P) (hl : i < en.length) (nb : ¬ Bf.bl p) (no : ¬ Bf.od p) (nw : ∀ j, ow j ≠ some p) (hp : H p = some (.lst xs)) (r : RpL H (blk (insB Bf p) ow) ds xs) :
    Ok P Bf (putOw ow i p) (en.set i (.ow ds)) (σ.set i (some (.ref p))) H := k.putO rfl hi hl nb no nw ⟨xs, hp, r⟩
/-- the tables stay good where something else is written -/
theorem tabs_upd {T : List (Addr × Str)} {H : Hp} {a : Addr} {o0 o' : HO} (t : LamX.Tabs T H) (h0 : H a = some o0) (nt : NT o0) (ne : ∀ φ, o0 ≠ .ext φ) : LamX.Tabs T (upd H a o') := fun q hq => by
  obtain ⟨ps, t1, t2, t3⟩ := t q hq
  have n1 : q.1 ≠ a := fun z => by
    rw [z, h0] at t1
    exact nt ps (Option.some.inj t1)
  refine ⟨ps, by rw [upd_ne n1]; exact t1, t2, fun pos cv hc => ?_⟩
  obtain ⟨c, e1, e2⟩ := t3 pos cv hc
  refine ⟨c, e1, ?_⟩
  rw [upd_ne fun z => by
    rw [z, h0] at e2
    exact ne _ (Option.some.inj e2)]
  exact e2
/-- an object of one's own is written -/
theorem Ok.wrO (k : Ok P Bf ow en σ H) {i : Nat} {a : Addr} {sl : Sl} {o' : HO} (e : ow i = some a) (ho : isOwn sl = true) (nt : NT o') (r : OwnAt (upd H a o') (blk Bf ow) a sl) : Ok P Bf ow (en.set i sl) σ (upd H a o') ∧ Rel P H ow (upd H a o') ow := by
  have ha : blk Bf ow a := .inr ⟨i, e⟩
  have mv : ∀ b o, H b = some o → NT o → ¬ blk Bf ow b → upd H a o' b = some o ∧ ¬ blk Bf ow b := fun b o h t n => ⟨by rw [upd_ne fun z => n (by rw [z]; exact ha)]; exact h, n⟩
  have sm : ∀ b, H b ≠ none → upd H a o' b ≠ none := fun b h => by
    by_cases hb : b = a
    · rw [hb, upd_same]
      exact fun z => nomatch z
    · rw [upd_ne hb]
      exact h
  obtain ⟨s0, e0, f0, g2, g3⟩ := k.hat e
  obtain ⟨o0, h0, n0, x0⟩ := g3.obj
  have hl : i < en.length := (List.getElem?_eq_some_iff.mp e0).1
  have mvN : ∀ b o, H b = some o → NT o → ¬ blkN Bf ow b → upd H a o' b = some o ∧ ¬ blkN Bf ow b := fun b o h t n => ⟨(mv b o h t fun z => n (.inl z)).1, n⟩
  refine ⟨⟨by simp [k.hlen], fun j d' e' => ?_, fun j d' e' => ?_, fun j s' e' f => ?_, fun j b e' => ?_, k.hinj, fun b h => sm b (k.hbf b h), fun b h => sm b (k.hod b h), k.hloc, tabs_upd k.htab h0 n0 x0⟩, fun b o h t n => ⟨by rw [upd_ne fun z => n i (by rw [z]; exact e)]; exact h, n⟩, sm, fun _ _ => rfl, fun _ _ z => z⟩
  · by_cases hj : j = i
    · subst hj
      rw [List.getElem?_set_self hl] at e'
      cases e'
      cases ho
    · rw [List.getElem?_set_ne (Ne.symm hj)] at e'
      obtain ⟨w, h1, h2⟩ := k.hva j d' e'
      exact ⟨w, h1, h2.move mv⟩
  · by_cases hj : j = i
    · subst hj
      rw [List.getElem?_set_self hl] at e'
      cases e'
      cases ho
    · rw [List.getElem?_set_ne (Ne.symm hj)] at e'
      obtain ⟨w, h1, h2⟩ := k.hvn j d' e'
      exact ⟨w, h1, h2.move mvN⟩
  · by_cases hj : j = i
    · subst hj
      rw [List.getElem?_set_self hl] at e'
      cases e'
      exact ⟨a, e, g2, r⟩
    · rw [List.getElem?_set_ne (Ne.symm hj)] at e'
      obtain ⟨b, h1, h2, h3⟩ := k.hob j s' e' f
      have nb : b ≠ a := fun z => hj (k.hinj j i a (by rw [← z]; exact h1) e)
      exact ⟨b, h1, h2, h3.move (fun o e _ => by rw [upd_ne nb]; exact e) mv⟩
  · by_cases hj : j = i
    · subst hj
      exact ⟨sl, List.getElem?_set_self hl, ho⟩
    · rw [List.getElem?_set_ne (Ne.symm hj)]
      exact k.hdom j b e'
/-- a list of one's own is written -/
theorem Ok.wr (k : Ok P Bf ow en σ H) {i : Nat} {a : Addr} (e : ow i = some a) (r : RpL H (blk Bf ow) ds xs) : Ok P Bf ow (en.set i (.ow ds)) σ (upd H a (.lst xs)) ∧ Rel P H ow (upd H a (.lst xs)) ow :=
  k.wrO e rfl (fun _ z => nomatch z) ⟨xs, upd_same, r.move fun b o h t n => ⟨by rw [upd_ne fun z => n (by rw [z]; exact .inr ⟨i, e⟩)]; exact h, n⟩⟩
end

section
variable {X : Cx} {P : Pl} {a b e : Expr} {es : List Expr} {fa fb : FE} {ga : FA} {pos apos cpos : Pos}
/-! ### expressions that give a new list -/
abbrev FL := En → Option (List D × En)
def tvF (P : Pl) (f : FL) : TE := fun σ H Q => ∃ Bf ow en, Ok P Bf ow en σ H ∧ ∃ ds en', f en = some (ds, en') ∧
  ∀ p xs ow' H', Ok P (insB Bf p) ow' en' σ H' → Rel P H ow H' ow' → ¬ Bf.bl p → ¬ Bf.od p → (∀ i, ow' i ≠ some p) → H p = none → H' p = some (.lst xs) → RpL H' (blk (insB Bf p) ow') ds xs → Q (.ref p) H'
def VF (X : Cx) (P : Pl) (e : Expr) (f : FL) : Prop := PE X e (tvF P f)
def eNew (f : FL) : FE := fun en => match f en with
  | some (ds, en1) => some (.list ds, en1)
  | none => none
theorem new_nb {Bf : Bk} {ow : Nat → Option Addr} {p : Addr} (h1 : ¬ Bf.bl p) (h2 : ∀ i, ow i ≠ some p) : ¬ blk Bf ow p := fun z => z.elim h1 fun ⟨i, z⟩ => h2 i z
theorem ve_new {f : FL} (h : VF X P e f) : VE X P e (eNew f) := PE.weak h fun σ H Q h => by
  obtain ⟨Bf, ow, en, k, d, en', hf, q⟩ := h
  unfold eNew at hf
  split at hf <;> first | cases hf | skip
  rename_i ds en1 h1
  exact ⟨Bf, ow, en, k, _, _, h1, fun p xs ow1 H1 k1 r1 b1 b2 b3 b4 hp rs => q _ ow1 H1 k1.unins r1 (.lst (new_nb b1 b3) (.inl hp) rs.unins)⟩
/-- at a new address, over what stands -/
theorem fresh_of {Bf : Bk} {ow ow1 : Nat → Option Addr} {en1 : En} {σ : L2.St} {H H1 : Hp} {p : Addr} {ds : List D} {xs : List V} {f : V → Hp → Prop} (k : Ok P Bf ow1 en1 σ H1) (r : Rel P H ow H1 ow1) (hp : H1 p = none) (rs : RpL H1 (blk Bf ow1) ds xs)
    (q : ∀ p xs ow' H', Ok P (insB Bf p) ow' en1 σ H' → Rel P H ow H' ow' → ¬ Bf.bl p → ¬ Bf.od p → (∀ i, ow' i ≠ some p) → H p = none → H' p = some (.lst xs) → RpL H' (blk (insB Bf p) ow') ds xs → f (.ref p) H') : f (.ref p) (upd H1 p (.lst xs)) := by
  have np := k.nb hp
  have h0 : H p = none := by
    cases e : H p with
    | none => rfl
    | some o => exact absurd hp (r.hsome p (by rw [e]; exact fun z => nomatch z))
  exact q p xs ow1 _ (k.avoid hp) (r.trans (Ext.upd hp).rel) (fun z => np (.inl z)) (fun z => k.hod p z hp) (fun i z => np (.inr ⟨i, z⟩)) h0 upd_same (rs.avoid hp (.upd hp))
def lLst (f : FA) : FL := fun en => match f en with
  | some (ds, en1) => if ds.length ≤ sizeLine then some (ds, en1) else none
  | none => none
theorem vf_lst (h : VA X P es ga) : VF X P (.List es pos) (lLst ga) := PE.weak (pe_lst h) fun σ H Q h => by
  obtain ⟨Bf, ow, en, k, d, en', hf, q⟩ := h
  unfold lLst at hf
  split at hf <;> first | cases hf | skip
  rename_i ds en1 h1
  split at hf <;> first | cases hf | skip
  rename_i hz
  exact ⟨Bf, ow, en, k, _, _, h1, fun vs ow1 H1 k1 r1 p1 => ⟨by rw [← p1.length]; exact hz, fun p hp => fresh_of (f := Q) k1 r1 hp p1 q⟩⟩
/-- a call of a built-in that gives a new list -/
def CaL (r : List V → Hp → VK → Prop) (g : List D → Option (List D)) : Prop := ∀ (H : Hp) (B : Addr → Prop) (ds es : List D) (vs : List V) (Q : VK), g ds = some es → RpL H B ds vs →
  (∀ p xs, H p = none → RpL H B es xs → Q (.ref p) (upd H p (.lst xs))) → r vs H Q
def lCall (g : List D → Option (List D)) (f : FA) : FL := fun en => match f en with
  | some (ds, en1) => match g ds with
    | some d => some (d, en1)
    | none => none
  | none => none
theorem tvF_call {r : List V → Hp → VK → Prop} {g : List D → Option (List D)} (hg : CaL r g) (σ : L2.St) (H : Hp) (Q : VK) (h : tvF P (lCall g ga) σ H Q) : tCB r (tvA P ga) σ H Q := by
  obtain ⟨Bf, ow, en, k, d, en', hf, q⟩ := h
  unfold lCall at hf
  split at hf <;> first | cases hf | skip
  rename_i ds en1 h1
  split at hf <;> first | cases hf | skip
  rename_i d' h2
  exact ⟨Bf, ow, en, k, _, _, h1, fun vs ow1 H1 k1 r1 p1 => hg H1 (blk Bf ow1) ds _ vs Q h2 p1 fun p xs hp rs => fresh_of (f := Q) k1 r1 hp rs q⟩
theorem vf_callB {id : String} {x : Str} {p : Pos} {r : List V → Hp → VK → Prop} {g : List D → Option (List D)} (hc : CallR X (.builtin id) r) (hgv : CaL r g) (hg : Gl X x) (hm : X.mg x = none) (hv : bootBuiltins x = some (.builtin id)) (ha : VA X P (e :: es) ga)
    (hn : x ≠ "__name__" := by decide) (hdb : (x == ("__debug__" : Str)) = false := by decide)
    (he : starEach (e :: es) X.env = (false, eval e X.env) :: starEach es X.env := by rfl) (hpl : (backTo pos (starEach es X.env)).any (·.1) = false := by rfl) : VF X P (.Call (.Name x p) (e :: es) [] pos) (lCall g ga) :=
  PE.weak (pe_callB hc hg hm hv ha hn hdb he hpl) (tvF_call hgv)
theorem vf_callTy {T : String} {x : Str} {p : Pos} {r : List V → Hp → VK → Prop} {g : List D → Option (List D)} (hc : CallR X (.type T) r) (hgv : CaL r g) (hg : Gl X x) (hm : X.mg x = none) (hv : bootBuiltins x = some (.type T)) (ha : VA X P (e :: es) ga)
    (hn : x ≠ "__name__" := by decide) (hdb : (x == ("__debug__" : Str)) = false := by decide)
    (he : starEach (e :: es) X.env = (false, eval e X.env) :: starEach es X.env := by rfl) (hpl : (backTo pos (starEach es X.env)).any (·.1) = false := by rfl) : VF X P (.Call (.Name x p) (e :: es) [] pos) (lCall g ga) :=
  PE.weak (pe_callTy hc hg hm hv ha hn hdb he hpl) (tvF_call hgv)

/-! ### a slot gets a new list of its own -/
def sOwn (i : Nat) (f : FL) : FS := fun en => match f en with
  | some (ds, en1) => if i < en1.length then some (.nx (en1.set i (.ow ds))) else none
  | none => none
theorem put_rel {ow ow1 : Nat → Option Addr} {H H1 : Hp} {p : Addr} {i : Nat} (hP : i ∉ P) (r : Rel P H ow H1 ow1) (hp : H p = none) : RelS P H ow H1 (putOw ow1 i p) :=
  ⟨fun b o e t n => ⟨(r.hkeep b o e t n).1, fun j z => by
    unfold putOw at z
    split at z
    · cases z
      rw [hp] at e
      cases e
    · exact (r.hkeep b o e t n).2 j z⟩, r.hsome, fun j hj => by
      unfold putOw
      rw [if_neg fun z => hP (by rw [← z]; exact hj)]
      exact r.hpin j hj⟩
theorem vs_own {f : FL} {i : Nat} {x : Str} {pos' : Pos} (hN : X.N.Nodup) (hi : X.N[i]? = some x) (hx : Loc X.env.scope x := by first | exact .inl rfl | exact .inr rfl) (hP : i ∉ P) (he : VF X P e f) (hs : swapsWith e (some (.Name x pos')) pos.line X.env = pure false := by rfl)
    (hf : X.fn x = true ∨ X.env.scope.names.lookup x = some .local := by first | exact .inl rfl | exact .inr rfl | assumption) : VS X P (.Assign [.Name x pos'] e pos) (sOwn i f) :=
  PS.weak (ps_set hN hi hx he hs hf) fun Dn σ H h => by
    obtain ⟨Bf, ow, en, k, o, hf, q⟩ := h
    unfold sOwn at hf
    split at hf <;> first | cases hf | skip
    rename_i ds en1 h1
    split at hf <;> first | cases hf | skip
    rename_i hl
    exact ⟨Bf, ow, en, k, _, _, h1, fun p xs ow1 H1 k1 r1 b1 b2 b3 b4 hp rs => q _ _ _ (k1.put hP hl b1 b2 b3 hp rs) (put_rel hP r1 b4)⟩

/-! ### a list of one's own: append, store, item, length -/
def isOw : Option Sl → Bool
  | some (.ow _) => true
  | _ => false
theorem isOw_of {o : Option Sl} (h : isOw o = true) : ∃ ds, o = some (.ow ds) := by
  unfold isOw at h
  split at h
  · exact ⟨_, rfl⟩
  · cases h
def sApp (i : Nat) (f : FE) : FS := fun en => if isOw en[i]? then (match f en with
  | some (d, en1) => match en1[i]? with
    | some (.ow ds) => if ds.length < sizeLine then some (.nx (en1.set i (.ow (ds ++ [d])))) else none
    | _ => none
  | none => none) else none
/-- a slot whose list is one's own behind an expression was one's own ahead, at the same address -/
theorem own_back {Bf : Bk} {ow ow1 : Nat → Option Addr} {en en1 : En} {σ σ1 : L2.St} {H H1 : Hp} {i : Nat} {ds1 : List D} (k : Ok P Bf ow en σ H) (k1 : Ok P Bf ow1 en1 σ1 H1) (r : Rel P H ow H1 ow1) (e : en1[i]? = some (.ow ds1)) :
    ∃ a xs1, ow i = some a ∧ ow1 i = some a ∧ H1 a = some (.lst xs1) ∧ RpL H1 (blk Bf ow1) ds1 xs1 := by
  obtain ⟨a, xs1, h1, h2, h3, h4⟩ := k1.hown i ds1 e
  exact ⟨a, xs1, r.hsub i a h1, h1, h3, h4⟩
theorem dc_back {Bf : Bk} {ow ow1 : Nat → Option Addr} {en en1 : En} {σ σ1 : L2.St} {H H1 : Hp} {i : Nat} {t1 : Bool} {ds1 : DKV} (k : Ok P Bf ow en σ H) (k1 : Ok P Bf ow1 en1 σ1 H1) (r : Rel P H ow H1 ow1) (e : en1[i]? = some (.dc t1 ds1)) :
    ∃ a, ow i = some a ∧ ow1 i = some a ∧ DcAt H1 (blk Bf ow1) a t1 ds1 := by
  obtain ⟨a, h1, h2, h3⟩ := k1.hdc i t1 ds1 e
  exact ⟨a, r.hsub i a h1, h1, h3⟩
theorem vs_append {i : Nat} {x : Str} {p' : Pos} (hN : X.N[i]? = some x) (hv : Vis X.env.scope x := by first | exact .inl rfl | exact .inr (.inl rfl) | exact .inr (.inr rfl)) (he : VE X P e fa)
    (hbase : attributeBase (.Name x p') "append" X.env (eval (.Name x p') X.env) = eval (.Name x p') X.env := by rfl)
    (hfew : ((backTo cpos (starEach [e] X.env)).all (fun x => !x.1) && (backToKw cpos (keywordEach [] X.env)).all (fun x => x.1.isSome)
      && decide ([e].length + ([] : List Keyword).length + (if ([] : List Keyword).isEmpty then 0 else 1) < 30)) = true := by rfl)
    (hline : (apos.endLine == cpos.line) = true := by rfl) (hst : starEach [e] X.env = (false, eval e X.env) :: starEach [] X.env := by rfl) (hplain : (backTo cpos (starEach [] X.env)).any (·.1) = false := by rfl)
    (hd : (x == ("__debug__" : Str)) = false := by decide) (hcd : (x == ("__classdict__" : Str)) = false := by decide)
    (hs : swapsWith (.Call (.Attribute (.Name x p') "append" apos) [e] [] cpos) none pos.line X.env = pure false := by rfl) :
    VS X P (.Expr (.Call (.Attribute (.Name x p') "append" apos) [e] [] cpos) pos) (sApp i fa) :=
  PS.weak (ps_expr (pe_bm PySem.F.plainAttrs_list PySem.F.slot_list_append PySem.F.type_list_append mt_append (pe_var hN hv hd hcd) (pa_cons he pa_nil hst) hbase hfew hline hst hplain) hs) fun Dn σ H h => by
    obtain ⟨Bf, ow, en, k, o, hf, q⟩ := h
    unfold sApp at hf
    split at hf <;> first | cases hf | skip
    rename_i h0
    obtain ⟨ds0, e0⟩ := isOw_of h0
    obtain ⟨a, xs0, g1, g2, g3, g4⟩ := k.hown i ds0 e0
    split at hf <;> first | cases hf | skip
    rename_i d en1 h1
    split at hf <;> first | cases hf | skip
    rename_i ds h2
    split at hf <;> first | cases hf | skip
    rename_i hz
    refine ⟨_, g2, .inl ⟨rfl, _, SqL.of g3⟩, Bf, ow, en, k, d, en1, h1, fun v ow1 H1 k1 r1 p1 => ?_⟩
    obtain ⟨a', xs1, w1, w2, w3, w4⟩ := own_back k k1 r1 h2
    rw [g1] at w1
    cases w1
    obtain ⟨k2, r2⟩ := k1.wr w2 (w4.append (.cons p1 .nil))
    exact ⟨a, xs1, v, rfl, rfl, w3, by rw [← w4.length]; exact hz, q _ _ _ k2 (r1.trans r2).s⟩
/-- x[i] = e -/
def sPut (i : Nat) (f g : FE) : FS := fun en => match f en with
  | some (d, en1) => if isOw en1[i]? then (match g en1 with
    | some (.int z, en2) => match en2[i]? with
      | some (.ow ds) => match ixN ds.length z with
        | some j => some (.nx (en2.set i (.ow (ds.set j d))))
        | none => none
      | _ => none
    | _ => none) else none
  | none => none
theorem vs_put {i : Nat} {x : Str} {p' : Pos} {ix : Expr} (hN : X.N[i]? = some x) (hv : Vis X.env.scope x := by first | exact .inl rfl | exact .inr (.inl rfl) | exact .inr (.inr rfl)) (hx : VE X P ix fb) (he : VE X P e fa)
    (ha : ∀ v, assign (.Subscript (.Name x p') ix apos) X.env v = (do
      let ov ← holding [v] (eval (.Name x p') X.env)
      let iv ← holding [v, ov] (eval ix X.env)
      standAt apos
      holding [v, ov, iv] (setItem ov iv v)
      release [v, ov, iv] []) := by intro _; rfl)
    (hs : swapsWithSole [.Subscript (.Name x p') ix apos] e pos.line X.env = pure false := by rfl) (hw : swappedStores [.Subscript (.Name x p') ix apos] e X.env = pure none := by rfl)
    (h1 : (assignEach [.Subscript (.Name x p') ix apos] X.env).map (·.2) = [assign (.Subscript (.Name x p') ix apos) X.env] := by rfl)
    (hd : (x == ("__debug__" : Str)) = false := by decide) (hcd : (x == ("__classdict__" : Str)) = false := by decide) :
    VS X P (.Assign [.Subscript (.Name x p') ix apos] e pos) (sPut i fa fb) :=
  PS.weak (ps_asg he (pg_sub (pe_var hN hv hd hcd) hx set_list ha) hs hw h1) fun Dn σ H h => by
    obtain ⟨Bf, ow, en, k, o, hf, q⟩ := h
    unfold sPut at hf
    split at hf <;> first | cases hf | skip
    rename_i d en1 h1
    split at hf <;> first | cases hf | skip
    rename_i h0
    obtain ⟨ds0, e0⟩ := isOw_of h0
    refine ⟨Bf, ow, en, k, d, en1, h1, fun v ow1 H1 k1 r1 p1 => ?_⟩
    obtain ⟨a, xs0, g1, g2, g3, g4⟩ := k1.hown i ds0 e0
    split at hf <;> first | cases hf | skip
    rename_i z en2 h2
    split at hf <;> first | cases hf | skip
    rename_i ds h3
    split at hf <;> first | cases hf | skip
    rename_i j hj
    refine ⟨_, g2, Bf, ow1, en1, k1, _, en2, h2, fun u ow2 H2 k2 r2 p2 => ?_⟩
    cases p2
    obtain ⟨a', xs1, w1, w2, w3, w4⟩ := own_back k1 k2 r2 h3
    rw [g1] at w1
    cases w1
    obtain ⟨k3, r3⟩ := k2.wr w2 (w4.set (r2.rp p1) j)
    exact ⟨a, xs1, z, j, rfl, rfl, w3, by rw [← w4.length]; exact hj, q _ _ _ k3 ((r1.trans r2).trans r3).s⟩
/-- x[i] -/
def eVarV (i : Nat) : FE := fun en => match en[i]? with
  | some (.va d) => some (d, en)
  | _ => none
def eGet (i : Nat) (g : FE) : FE := fun en => if isOw en[i]? then (match g en with
  | some (.int z, en1) => match en1[i]? with
    | some (.ow ds) => match atI ds z with
      | some d => some (d, en1)
      | none => none
    | _ => none
  | _ => none) else eOp gIx (eVarV i) g en
theorem ve_get {i : Nat} {x : Str} {p' : Pos} {ix : Expr} (hN : X.N[i]? = some x) (hv : Vis X.env.scope x := by first | exact .inl rfl | exact .inr (.inl rfl) | exact .inr (.inr rfl)) (hx : VE X P ix fb) (hs : PlainIx ix)
    (hd : (x == ("__debug__" : Str)) = false := by decide) (hcd : (x == ("__classdict__" : Str)) = false := by decide) : VE X P (.Subscript (.Name x p') ix pos) (eGet i fb) :=
  PE.weak (pe_ix ix_seq (pe_var hN hv hd hcd) hx hs) fun σ H Q h => by
    obtain ⟨Bf, ow, en, k, d, en', hf, q⟩ := h
    unfold eGet at hf
    split at hf
    · rename_i h0
      obtain ⟨ds0, e0⟩ := isOw_of h0
      obtain ⟨a, xs0, g1, g2, g3, g4⟩ := k.hown i ds0 e0
      split at hf <;> first | cases hf | skip
      rename_i z en1 h1
      split at hf <;> first | cases hf | skip
      rename_i ds h2
      split at hf <;> first | cases hf | skip
      rename_i d' h3
      refine ⟨_, g2, Bf, ow, en, k, _, _, h1, fun v ow1 H1 k1 r1 p1 => ?_⟩
      cases p1
      obtain ⟨a', xs1, w1, w2, w3, w4⟩ := own_back k k1 r1 h2
      rw [g1] at w1
      cases w1
      obtain ⟨v, w5, w6⟩ := w4.atI h3
      exact .inl ⟨a, xs1, z, v, rfl, rfl, SqL.of w3, w5, q v ow1 H1 k1 r1 w6⟩
    · unfold eOp eVarV at hf
      split at hf <;> first | cases hf | skip
      rename_i x1 en0 h1
      split at h1 <;> first | cases h1 | skip
      rename_i d0 e0
      split at hf <;> first | cases hf | skip
      rename_i y en2 h2
      split at hf <;> first | cases hf | skip
      rename_i z h3
      obtain ⟨v, g1, g2⟩ := k.hva i _ e0
      refine ⟨v, g1, Bf, ow, en, k, _, _, h2, fun v2 ow1 H1 k1 r1 p1 => ?_⟩
      exact ov_ix H1 (blk Bf ow1) _ y d v v2 Q h3 (r1.rp g2) p1 (fun p hp => k1.nb hp) fun v H' ex p => q v ow1 H' (k1.ext ex) (r1.trans ex.rel) p
/-- len(x) -/
def eLenO (i : Nat) : FE := fun en => match en[i]? with
  | some (.ow ds) => some (.int ds.length, en)
  | _ => none
theorem ve_lenO {i : Nat} {x : Str} {p p' : Pos} (hN : X.N[i]? = some x) (hv : Vis X.env.scope x := by first | exact .inl rfl | exact .inr (.inl rfl) | exact .inr (.inr rfl)) (hg : Gl X "len") (hm : X.mg "len" = none)
    (hd : (x == ("__debug__" : Str)) = false := by decide) (hcd : (x == ("__classdict__" : Str)) = false := by decide)
    (hst : starEach [.Name x p'] X.env = (false, eval (.Name x p') X.env) :: starEach [] X.env := by rfl) (hpl : (backTo pos (starEach [] X.env)).any (·.1) = false := by rfl) : VE X P (.Call (.Name "len" p) [.Name x p'] [] pos) (eLenO i) :=
  PE.weak (pe_callB call_len_seq hg hm PySem.boot_len (pa_cons (pe_var hN hv hd hcd) pa_nil hst) (by decide) (by decide) hst hpl) fun σ H Q h => by
    obtain ⟨Bf, ow, en, k, d, en', hf, q⟩ := h
    unfold eLenO at hf
    split at hf <;> first | cases hf | skip
    rename_i ds e0
    obtain ⟨a, xs0, g1, g2, g3, g4⟩ := k.hown i ds e0
    exact ⟨_, g2, a, xs0, rfl, .inl (SqL.of g3), q _ ow H k .refl (by rw [← g4.length]; exact .int _)⟩
/-- a list of one's own, given away new -/
def lVar (P : List Nat) (i : Nat) : FL := fun en => match en[i]? with
  | some (.ow ds) => if i ∈ P then none else some (ds, en.set i .un)
  | _ => none
end
end VL

namespace VL
open PySem PySem.Spec
open PyProof.Rows L2

section
variable {X : Cx} {P : Pl} {a b e : Expr} {es : List Expr} {fa fb : FE} {ga : FA} {pos apos cpos : Pos}
/-! ### returns of new lists -/
def sRetF (f : FL) : FS := fun en => match f en with
  | some (ds, en1) => some (.rf ds en1)
  | none => none
theorem vs_retF {f : FL} (he : VF X P e f) : VS X P (.Return (some e) pos) (sRetF f) := PS.weak (ps_ret he) fun Dn σ H h => by
  obtain ⟨Bf, ow, en, k, o, hf, q⟩ := h
  unfold sRetF at hf
  split at hf <;> first | cases hf | skip
  rename_i d en1 h1
  exact ⟨Bf, ow, en, k, _, _, h1, fun p xs ow1 H1 k1 r1 b1 b2 b3 b4 hp rs => q ow1 σ H1 p xs k1 r1.s b1 b2 b3 hp rs⟩
theorem Ok.freeO {Bf : Bk} {ow : Nat → Option Addr} {en : En} {σ : L2.St} {H : Hp} (k : Ok P Bf ow en σ H) {i : Nat} {sl : Sl} (hi : i ∉ P) (e : en[i]? = some sl) (ho : isOwn sl = true) :
    ∃ a, σ[i]? = some (some (.ref a)) ∧ Ok P (insB Bf a) (dropOw ow i) (en.set i .un) σ H ∧ ¬ Bf.bl a ∧ ¬ Bf.od a ∧ (∀ j, dropOw ow i j ≠ some a) ∧ OwnAt H (blk (insB Bf a) (dropOw ow i)) a sl := by
  obtain ⟨a, h1, h2, h3⟩ := k.hob i sl e ho
  have na : ∀ j, dropOw ow i j ≠ some a := fun j z => by
    have := k.hinj j i a (dropOw_sub _ _ z) h1
    subst this
    unfold dropOw at z
    rw [if_pos rfl] at z
    cases z
  have mv : ∀ b o, H b = some o → NT o → ¬ blk Bf ow b → H b = some o ∧ ¬ blk (insB Bf a) (dropOw ow i) b := fun b o e t n => ⟨e, fun z => by
    rcases insB_blk z with z | z
    · exact n (dropOw_blk z)
    · subst z
      exact n (.inr ⟨i, h1⟩)⟩
  have mvN : ∀ b o, H b = some o → NT o → ¬ blkN Bf ow b → H b = some o ∧ ¬ blkN (insB Bf a) (dropOw ow i) b := fun b o e t n => ⟨e, fun z => by
    rcases insB_blkN z with z | z
    · exact n (z.elim (fun z => .inl (dropOw_blk z)) .inr)
    · subst z
      exact n (.inl (.inr ⟨i, h1⟩))⟩
  refine ⟨a, h2, ⟨by simp [k.hlen], fun j d' e' => ?_, fun j d' e' => ?_, fun j s' e' f => ?_, fun j b e' => ?_, fun j l b e1 e2 => k.hinj j l b (dropOw_sub _ _ e1) (dropOw_sub _ _ e2), fun b h => ?_, k.hod, fun j b e' hj => ?_, k.htab⟩, (k.hloc i a h1 hi).1, (k.hloc i a h1 hi).2, na, h3.move (fun o e _ => e) mv⟩
  · by_cases hj : j = i
    · subst hj
      rw [List.getElem?_set_self (List.getElem?_eq_some_iff.mp e).1] at e'
      cases e'
    · rw [List.getElem?_set_ne (Ne.symm hj)] at e'
      obtain ⟨w, h1, h2⟩ := k.hva j d' e'
      exact ⟨w, h1, h2.move mv⟩
  · by_cases hj : j = i
    · subst hj
      rw [List.getElem?_set_self (List.getElem?_eq_some_iff.mp e).1] at e'
      cases e'
    · rw [List.getElem?_set_ne (Ne.symm hj)] at e'
      obtain ⟨w, h1, h2⟩ := k.hvn j d' e'
      exact ⟨w, h1, h2.move mvN⟩
  · by_cases hj : j = i
    · subst hj
      rw [List.getElem?_set_self (List.getElem?_eq_some_iff.mp e).1] at e'
      cases e'
      cases f
    · rw [List.getElem?_set_ne (Ne.symm hj)] at e'
      obtain ⟨b, g1, g2, g3⟩ := k.hob j s' e' f
      exact ⟨b, by unfold dropOw; rw [if_neg hj]; exact g1, g2, g3.move (fun o e _ => e) mv⟩
  · have e2 := dropOw_sub _ _ e'
    unfold dropOw at e'
    split at e'
    · cases e'
    · rename_i hj
      rw [List.getElem?_set_ne (Ne.symm hj)]
      exact k.hdom j b e2
  · rcases h with h | h
    · exact k.hbf b h
    · subst h
      exact h3.ne
  · refine ⟨fun z => ?_, (k.hloc j b (dropOw_sub _ _ e') hj).2⟩
    rcases z with z | z
    · exact (k.hloc j b (dropOw_sub _ _ e') hj).1 z
    · subst z
      exact na j e'
theorem Ok.free {Bf : Bk} {ow : Nat → Option Addr} {en : En} {σ : L2.St} {H : Hp} (k : Ok P Bf ow en σ H) {i : Nat} {ds : List D} (hi : i ∉ P) (e : en[i]? = some (.ow ds)) :
    ∃ a xs, σ[i]? = some (some (.ref a)) ∧ Ok P (insB Bf a) (dropOw ow i) (en.set i .un) σ H ∧ ¬ Bf.bl a ∧ ¬ Bf.od a ∧ (∀ j, dropOw ow i j ≠ some a) ∧ H a = some (.lst xs) ∧ RpL H (blk (insB Bf a) (dropOw ow i)) ds xs := by
  obtain ⟨a, h1, h2, h3, h4, h5, xs, h6, h7⟩ := k.freeO hi e rfl
  exact ⟨a, xs, h1, h2, h3, h4, h5, h6, h7⟩
def sRetO (P : List Nat) (i : Nat) : FS := fun en => match en[i]? with
  | some (.ow ds) => if i ∈ P then none else some (.rf ds (en.set i .un))
  | _ => none
theorem vs_retO {i : Nat} {x : Str} {p : Pos} (hN : X.N[i]? = some x) (hv : Vis X.env.scope x := by first | exact .inl rfl | exact .inr (.inl rfl) | exact .inr (.inr rfl)) (hd : (x == ("__debug__" : Str)) = false := by decide) (hcd : (x == ("__classdict__" : Str)) = false := by decide) : VS X P (.Return (some (.Name x p)) pos) (sRetO P.ps i) :=
  PS.weak (ps_ret (pe_var hN hv hd hcd)) fun Dn σ H h => by
    obtain ⟨Bf, ow, en, k, o, hf, q⟩ := h
    unfold sRetO at hf
    split at hf <;> first | cases hf | skip
    rename_i ds e0
    split at hf <;> first | cases hf | skip
    rename_i hi
    obtain ⟨a, xs, g1, k2, b1, b2, b3, hp, rs⟩ := k.free hi e0
    exact ⟨_, g1, q _ σ H a xs k2 (dropOw_rel hi).s b1 b2 b3 hp rs⟩
end

/-! ### functions -/
structure Aft (P : Pl) (Bf : Bk) (ow : Nat → Option Addr) (as' : En) (H H' : Hp) : Prop where
  own : ∀ i, i ∈ P → ∀ a, ow i = some a → ∃ s, as'[i]? = some s ∧ isOwn s = true ∧ OwnAt H' (blk Bf ow) a s
  keep : ∀ b o, H b = some o → NT o → (∀ i, ow i ≠ some b) → H' b = some o
  dom : ∀ b, H b ≠ none → H' b ≠ none
  tab : LamX.Tabs P.tb H'
abbrev FF := En → Option (D × En)
abbrev FFL := En → Option (List D × En)
def spV (P : Pl) (n : Nat) (F : FF) : Sp := fun vs H Q _ => ∃ Bf ow as, as.length = n ∧ Ok P Bf ow as (vs.map some) H ∧ (∀ i a, ow i = some a → i ∈ P) ∧ (∀ (i : Nat) (d : D), as[i]? ≠ some (Sl.vn d)) ∧ ∃ d as', F as = some (d, as') ∧
  ∀ v H', Aft P Bf ow as' H H' → Rp H' (blk Bf ow) d v → Q v H'
def spL (P : Pl) (n : Nat) (F : FFL) : Sp := fun vs H Q _ => ∃ Bf ow as, as.length = n ∧ Ok P Bf ow as (vs.map some) H ∧ (∀ i a, ow i = some a → i ∈ P) ∧ (∀ (i : Nat) (d : D), as[i]? ≠ some (Sl.vn d)) ∧ ∃ ds as', F as = some (ds, as') ∧
  ∀ p xs H', Aft P (insB Bf p) ow as' H H' → H p = none → H' p = some (.lst xs) → RpL H' (blk (insB Bf p) ow) ds xs → Q (.ref p) H'
def fnV (m : Nat) (f : FS) : FF := fun as => match f (as ++ List.replicate (m - as.length) .un) with
  | some (.rt d en) => some (d, en)
  | some (.nx en) => some (.none, en)
  | some (.rf ds en) => some (.list ds, en)
  | _ => none
def fnL (m : Nat) (f : FS) : FFL := fun as => match f (as ++ List.replicate (m - as.length) .un) with
  | some (.rf ds en) => some (ds, en)
  | _ => none
section
variable {P : Pl} {Bf : Bk} {ow ow' : Nat → Option Addr} {as en' : En} {vs : List V} {H H' : Hp}
def runB (Bf : Bk) (H : Hp) : Bk := ⟨Bf.bl, fun b => H b ≠ none⟩
theorem ok_start {N : List Str} (k : Ok P Bf ow as (vs.map some) H) (hw : ∀ i a, ow i = some a → i ∈ P) (hn : ∀ (i : Nat) (d : D), as[i]? ≠ some (Sl.vn d)) : Ok P (runB Bf H) ow (as ++ List.replicate (N.length - as.length) .un) (L2.start N vs) H := by
  have hl : vs.length = as.length := by simpa using k.hlen
  have e1 : ∀ (i : Nat) (s : Sl), (as ++ List.replicate (N.length - as.length) Sl.un)[i]? = some s → s ≠ .un → as[i]? = some s := fun i s e hs => by
    by_cases hi : i < as.length
    · rw [List.getElem?_append_left hi] at e
      exact e
    · rw [List.getElem?_append_right (by omega)] at e
      have := List.mem_of_getElem? e
      exact absurd (List.eq_of_mem_replicate this) hs
  have e2 : ∀ (i : Nat) (v : V), (vs.map some)[i]? = some (some v) → (L2.start N vs)[i]? = some (some v) := fun i v e => by
    unfold L2.start
    rw [List.getElem?_append_left (List.getElem?_eq_some_iff.mp e).1]
    exact e
  refine ⟨?_, fun i d e => ?_, fun i d e => absurd (e1 i _ e (fun z => nomatch z)) (hn i d), fun i s e f => ?_, fun i a e => ?_, k.hinj, k.hbf, fun b h => h, fun i a e hi => absurd (hw i a e) hi, k.htab⟩
  · unfold L2.start
    simp [hl]
  · obtain ⟨v, h1, h2⟩ := k.hva i d (e1 i _ e (fun z => nomatch z))
    exact ⟨v, e2 i v h1, h2⟩
  · obtain ⟨a, h1, h2, h3⟩ := k.hob i s (e1 i _ e (fun z => by subst z; cases f)) f
    exact ⟨a, h1, e2 i _ h2, h3⟩
  · obtain ⟨s, e, f⟩ := k.hdom i a e
    exact ⟨s, by rw [List.getElem?_append_left (List.getElem?_eq_some_iff.mp e).1]; exact e, f⟩
theorem run_sub (hw : ∀ i a, ow i = some a → i ∈ P) (hp : ∀ i, i ∈ P → ow' i = ow i) {b : Addr} (z : blk Bf ow b) : blk (runB Bf H) ow' b := by
  rcases z with z | ⟨i, z⟩
  · exact .inl z
  · exact .inr ⟨i, by rw [hp i (hw i b z)]; exact z⟩
theorem run_subI {p : Addr} (hw : ∀ i a, ow i = some a → i ∈ P) (hp : ∀ i, i ∈ P → ow' i = ow i) {b : Addr} (z : blk (insB Bf p) ow b) : blk (insB (runB Bf H) p) ow' b := by
  rcases z with z | ⟨i, z⟩
  · exact .inl z
  · exact .inr ⟨i, by rw [hp i (hw i b z)]; exact z⟩
theorem aft_of {σ' : L2.St} (hw : ∀ i a, ow i = some a → i ∈ P) (k : Ok P (runB Bf H) ow' en' σ' H') (r : RelS P H ow H' ow') : Aft P Bf ow en' H H' :=
  ⟨fun i hi a e => by
    have e' : ow' i = some a := (r.hpin i hi).trans e
    obtain ⟨s, h, f, g2, g3⟩ := k.hat e'
    exact ⟨s, h, f, g3.move (fun o e _ => e) fun b o e t n => ⟨e, fun z => n (run_sub hw r.hpin z)⟩⟩, fun b o e t n => (r.hkeep b o e t n).1, r.hsome, k.htab⟩
theorem aft_ofI {σ' : L2.St} {p : Addr} (hw : ∀ i a, ow i = some a → i ∈ P) (k : Ok P (insB (runB Bf H) p) ow' en' σ' H') (r : RelS P H ow H' ow') : Aft P (insB Bf p) ow en' H H' :=
  ⟨fun i hi a e => by
    have e' : ow' i = some a := (r.hpin i hi).trans e
    obtain ⟨s, h, f, g2, g3⟩ := k.hat e'
    exact ⟨s, h, f, g3.move (fun o e _ => e) fun b o e t n => ⟨e, fun z => n (run_subI hw r.hpin z)⟩⟩, fun b o e t n => (r.hkeep b o e t n).1, r.hsome, k.htab⟩
/-- a body's reading gives the function's promise -/
theorem body_V {N : List Str} {n : Nat} {f : FS} {Q : VK} {E : XK} (h : spV P n (fnV N.length f) vs H Q E) : tvS P f { nx := fun _ H' => Q .non H', rt := Q } (L2.start N vs) H := by
  obtain ⟨Bf, ow, as, hl, k, hw, hn, d, as', hF, q⟩ := h
  unfold fnV at hF
  split at hF
  · rename_i d' en h1
    cases hF
    refine ⟨runB Bf H, ow, _, ok_start k hw hn, _, h1, fun ow' σ' H' v k' r p => ?_⟩
    exact q v H' (aft_of hw k' r) (p.move fun b o e t n => ⟨e, fun z => n (run_sub hw r.hpin z)⟩)
  · rename_i en h1
    cases hF
    refine ⟨runB Bf H, ow, _, ok_start k hw hn, _, h1, fun ow' σ' H' k' r => ?_⟩
    exact q .non H' (aft_of hw k' r) .non
  · rename_i ds en h1
    cases hF
    refine ⟨runB Bf H, ow, _, ok_start k hw hn, _, h1, fun ow' σ' H' p xs k' r b1 b2 b3 hp rs => ?_⟩
    exact q (.ref p) H' (aft_of hw k'.unins r) ((Rp.lst (new_nb b1 b3) (.inl hp) rs.unins).move fun b o e t n => ⟨e, fun z => n (run_sub hw r.hpin z)⟩)
  · cases hF
theorem body_L {N : List Str} {n : Nat} {f : FS} {Q : VK} {E : XK} (h : spL P n (fnL N.length f) vs H Q E) : tvS P f { nx := fun _ H' => Q .non H', rt := Q } (L2.start N vs) H := by
  obtain ⟨Bf, ow, as, hl, k, hw, hn, d, as', hF, q⟩ := h
  unfold fnL at hF
  split at hF
  · rename_i ds en h1
    cases hF
    refine ⟨runB Bf H, ow, _, ok_start k hw hn, _, h1, fun ow' σ' H' p xs k' r b1 b2 b3 hp rs => ?_⟩
    refine q p xs H' (aft_ofI hw k' r) ?_ hp (rs.move fun b o e t n => ⟨e, fun z => n (run_subI hw r.hpin z)⟩)
    cases e : H p with
    | none => rfl
    | some o => exact absurd (show H p ≠ none by rw [e]; exact fun z => nomatch z) b2
  · cases hF
theorem len_V {n : Nat} {F : FF} {ps : List Str} (hn : ps.length = n) : ∀ vs H Q E, spV P n F vs H Q E → vs.length = ps.length := fun vs H Q E h => by
  obtain ⟨Bf, ow, as, hl, k, _⟩ := h
  have := k.hlen
  rw [List.length_map] at this
  omega
theorem len_L {n : Nat} {F : FFL} {ps : List Str} (hn : ps.length = n) : ∀ vs H Q E, spL P n F vs H Q E → vs.length = ps.length := fun vs H Q E h => by
  obtain ⟨Bf, ow, as, hl, k, _⟩ := h
  have := k.hlen
  rw [List.length_map] at this
  omega
end
/-- a def that keeps its promise, by its name -/
structure Def (P : Program) (w : World) (K : PySem.W.Frag) (mg : Str → Option Value) (base : Heap) (x : Str) (k : Nat) (ps : List Str) (sp : Sp) : Prop where
  ex : ∃ (f : Addr) (fd : FuncData), mg x = some (.ref f) ∧ PySem.W.keepIn K (.ref f) = true ∧ Binds K fd ps [] ∧ FnOk P w K mg base CX0 k f fd ps sp ∧ ∃ oc od osl, K.lookup f = some ⟨oc, od, .func fd, osl⟩
/-- what a name's def is, before its promise -/
structure Nmd (K : PySem.W.Frag) (mg : Str → Option Value) (x : String) (st : Stmt) (ps : List Str) : Prop where
  ex : ∃ (f : Addr) (fd : FuncData), mg x = some (.ref f) ∧ Fun K x x st f fd ∧ Binds K fd ps []
theorem fun_lk {K : PySem.W.Frag} {x qual : Str} {st : Stmt} {f : Addr} {fd : FuncData} (F : Fun K x qual st f fd) : ∃ oc od osl, K.lookup f = some ⟨oc, od, .func fd, osl⟩ := by
  obtain ⟨oc, od, kV, doc, pm, an, cdv, ct, osl, rfl, lk, _⟩ := F.ex
  exact ⟨oc, od, osl, lk⟩
section
variable {Pg : Program} {w : World} {K : PySem.W.Frag} {mg : Str → Option Value} {base : Heap} {P : Pl}
theorem def_V {x : String} {st : Stmt} {N ps : List Str} {k : Nat} {f : FS} (F : Nmd K mg x st ps) (S : FnScope N ps (defScope st))
    (hb : ∀ (fa : Addr) (cdv : Value) (A : Around) (outer : List Env) (s : Shared) (H : Hp) (E : XK), Room k (A.deeper (envOfC x (defScope st) s.heap.objs.size fa cdv)) → VB (cxOf CX0 Pg w K mg base N x (defScope st) fa cdv A outer s H E).nox P (defBody st) f) :
    Def Pg w K mg base x (k + 1) ps (spV P ps.length (fnV N.length f)) := by
  obtain ⟨fa, fd, h1, h2, h3⟩ := F.ex
  exact ⟨fa, fd, h1, h2.kp, h3, h2.ok S (len_V rfl) fun cdv A outer s H vs Q E hr h => ⟨_, hb fa cdv A outer s H E hr, body_V h⟩, fun_lk h2⟩
theorem def_L {x : String} {st : Stmt} {N ps : List Str} {k : Nat} {f : FS} (F : Nmd K mg x st ps) (S : FnScope N ps (defScope st))
    (hb : ∀ (fa : Addr) (cdv : Value) (A : Around) (outer : List Env) (s : Shared) (H : Hp) (E : XK), Room k (A.deeper (envOfC x (defScope st) s.heap.objs.size fa cdv)) → VB (cxOf CX0 Pg w K mg base N x (defScope st) fa cdv A outer s H E).nox P (defBody st) f) :
    Def Pg w K mg base x (k + 1) ps (spL P ps.length (fnL N.length f)) := by
  obtain ⟨fa, fd, h1, h2, h3⟩ := F.ex
  exact ⟨fa, fd, h1, h2.kp, h3, h2.ok S (len_L rfl) fun cdv A outer s H vs Q E hr h => ⟨_, hb fa cdv A outer s H E hr, body_L h⟩, fun_lk h2⟩
end
end VL

namespace VL
open PySem PySem.Spec
open PyProof.Rows L2

/-! ### arguments of a call of one's own: a value, a list of the caller's own that the def may change, one that is lent -/
inductive Md where
  | v (d : D) | o (i : Nat) | b (i : Nat)
abbrev FM := En → Option (List Md × En)
def MdOk (Bf : Bk) (ow : Nat → Option Addr) (en : En) (H : Hp) : Md → V → Prop
  | .v d, x => Rp H (blk Bf ow) d x
  | .o i, x => ∃ a, ow i = some a ∧ x = .ref a
  | .b i, x => ∃ a, ow i = some a ∧ x = .ref a
def MdsOk (Bf : Bk) (ow : Nat → Option Addr) (en : En) (H : Hp) : List Md → List V → Prop
  | [], [] => True
  | m :: ms, x :: xs => MdOk Bf ow en H m x ∧ MdsOk Bf ow en H ms xs
  | _, _ => False
def tvM (P : Pl) (f : FM) : TA := fun σ H Q => ∃ Bf ow en, Ok P Bf ow en σ H ∧ ∃ ms en', f en = some (ms, en') ∧
  ∀ vs ow' H', Ok P Bf ow' en' σ H' → Rel P H ow H' ow' → MdsOk Bf ow' en' H' ms vs → Q vs H'
def VM (X : Cx) (P : Pl) (es : List Expr) (f : FM) : Prop := PA X es (tvM P f)
section
variable {X : Cx} {P : Pl} {a b e : Expr} {es : List Expr} {fa fb : FE} {gm : FM} {pos apos cpos : Pos}
def mNil : FM := fun en => some ([], en)
def mCons (f : FE) (g : FM) : FM := fun en => match f en with
  | some (d, en1) => match g en1 with
    | some (ms, en2) => some (.v d :: ms, en2)
    | none => none
  | none => none
def isOwnO : Option Sl → Bool
  | some s => isOwn s
  | none => false
theorem isOwnO_of {o : Option Sl} (h : isOwnO o = true) : ∃ s, o = some s ∧ isOwn s = true := by
  unfold isOwnO at h
  split at h
  · exact ⟨_, rfl, h⟩
  · cases h
def mOwn (i : Nat) (g : FM) : FM := fun en => if isOwnO en[i]? then (match g en with
  | some (ms, en1) => if isOwnO en1[i]? then some (.o i :: ms, en1) else none
  | none => none) else none
def mLend (i : Nat) (g : FM) : FM := fun en => if isOw en[i]? then (match g en with
  | some (ms, en1) => if isOw en1[i]? then some (.b i :: ms, en1) else none
  | none => none) else none
theorem vm_nil : VM X P [] mNil := by
  refine PA.weak pa_nil fun σ H Q h => ?_
  obtain ⟨Bf, ow, en, k, d, en', hf, q⟩ := h
  cases hf
  exact q [] ow H k .refl trivial
theorem vm_cons (ha : VE X P e fa) (hr : VM X P es gm) (hs : starEach (e :: es) X.env = (false, eval e X.env) :: starEach es X.env := by rfl) : VM X P (e :: es) (mCons fa gm) := by
  refine PA.weak (pa_cons ha hr hs) fun σ H Q h => ?_
  obtain ⟨Bf, ow, en, k, d, en', hf, q⟩ := h
  unfold mCons at hf
  split at hf <;> first | cases hf | skip
  rename_i d1 en1 h1
  split at hf <;> first | cases hf | skip
  rename_i ds en2 h2
  exact ⟨Bf, ow, en, k, _, _, h1, fun v1 ow1 H1 k1 r1 p1 => ⟨Bf, ow1, en1, k1, _, _, h2, fun vs ow2 H2 k2 r2 p2 => q _ ow2 H2 k2 (r1.trans r2) ⟨r2.rp p1, p2⟩⟩⟩
theorem vm_own {i : Nat} {x : Str} {p' : Pos} (hN : X.N[i]? = some x) (hv : Vis X.env.scope x := by first | exact .inl rfl | exact .inr (.inl rfl) | exact .inr (.inr rfl)) (hr : VM X P es gm) (hs : starEach (.Name x p' :: es) X.env = (false, eval (.Name x p') X.env) :: starEach es X.env := by rfl)
    (hd : (x == ("__debug__" : Str)) = false := by decide) (hcd : (x == ("__classdict__" : Str)) = false := by decide) : VM X P (.Name x p' :: es) (mOwn i gm) := by
  refine PA.weak (pa_cons (pe_var hN hv hd hcd) hr hs) fun σ H Q h => ?_
  obtain ⟨Bf, ow, en, k, d, en', hf, q⟩ := h
  unfold mOwn at hf
  split at hf <;> first | cases hf | skip
  rename_i h0
  obtain ⟨s0, e0, f0⟩ := isOwnO_of h0
  obtain ⟨a, g1, g2, g3⟩ := k.hob i s0 e0 f0
  split at hf <;> first | cases hf | skip
  rename_i ms en1 h1
  split at hf <;> first | cases hf | skip
  rename_i h2
  obtain ⟨s1, e1, f1⟩ := isOwnO_of h2
  refine ⟨_, g2, Bf, ow, en, k, _, _, h1, fun vs ow1 H1 k1 r1 p1 => q _ ow1 H1 k1 r1 ⟨?_, p1⟩⟩
  obtain ⟨a', w2, _⟩ := k1.hob i s1 e1 f1
  have w1 := r1.hsub i a' w2
  rw [g1] at w1
  cases w1
  exact ⟨a, w2, rfl⟩
theorem vm_lend {i : Nat} {x : Str} {p' : Pos} (hN : X.N[i]? = some x) (hv : Vis X.env.scope x := by first | exact .inl rfl | exact .inr (.inl rfl) | exact .inr (.inr rfl)) (hr : VM X P es gm) (hs : starEach (.Name x p' :: es) X.env = (false, eval (.Name x p') X.env) :: starEach es X.env := by rfl)
    (hd : (x == ("__debug__" : Str)) = false := by decide) (hcd : (x == ("__classdict__" : Str)) = false := by decide) : VM X P (.Name x p' :: es) (mLend i gm) := by
  refine PA.weak (pa_cons (pe_var hN hv hd hcd) hr hs) fun σ H Q h => ?_
  obtain ⟨Bf, ow, en, k, d, en', hf, q⟩ := h
  unfold mLend at hf
  split at hf <;> first | cases hf | skip
  rename_i h0
  obtain ⟨ds0, e0⟩ := isOw_of h0
  obtain ⟨a, xs0, g1, g2, g3, g4⟩ := k.hown i ds0 e0
  split at hf <;> first | cases hf | skip
  rename_i ms en1 h1
  split at hf <;> first | cases hf | skip
  rename_i h2
  obtain ⟨ds1, e1⟩ := isOw_of h2
  refine ⟨_, g2, Bf, ow, en, k, _, _, h1, fun vs ow1 H1 k1 r1 p1 => q _ ow1 H1 k1 r1 ⟨?_, p1⟩⟩
  obtain ⟨a', xs1, w1, w2, _⟩ := own_back k k1 r1 e1
  rw [g1] at w1
  cases w1
  exact ⟨a, w2, rfl⟩

/-! ### from the caller's state to the callee's, and back -/
def mdSl (en : En) : Md → Sl
  | .v d => .va d
  | .o i => (en[i]?).getD .un
  | .b i => match en[i]? with
    | some (.ow ds) => .va (.list ds)
    | _ => .un
/-- the callee's own lists -/
def mdOw (ow : Nat → Option Addr) (ms : List Md) (j : Nat) : Option Addr := match ms[j]? with
  | some (.o i) => ow i
  | _ => none
def isO : Md → Bool
  | .o _ => true
  | _ => false
def isB : Md → Bool
  | .b _ => true
  | _ => false
/-- which slots are handed over: no slot twice, and just those at the places P' -/
def handOk (P' : List Nat) (ms : List Md) : Bool := (List.range ms.length).all fun j => match ms[j]? with
  | some (.o i) => decide (j ∈ P') && (List.range ms.length).all fun l => match ms[l]? with
    | some (.o i') => i' != i || l == j
    | _ => true
  | _ => true
theorem MdsOk.length {Bf : Bk} {ow : Nat → Option Addr} {en : En} {H : Hp} : ∀ {ms : List Md} {vs : List V}, MdsOk Bf ow en H ms vs → ms.length = vs.length
  | [], [], _ => rfl
  | _ :: _, _ :: _, h => by simp [MdsOk.length h.2]
  | [], _ :: _, h => h.elim
  | _ :: _, [], h => h.elim
theorem MdsOk.get {Bf : Bk} {ow : Nat → Option Addr} {en : En} {H : Hp} : ∀ {ms : List Md} {vs : List V} {j : Nat} {m : Md}, MdsOk Bf ow en H ms vs → ms[j]? = some m → ∃ v, vs[j]? = some v ∧ MdOk Bf ow en H m v
  | [], [], _, _, _, e => by simp at e
  | m :: _, v :: _, 0, _, h, e => by simp at e; subst e; exact ⟨v, rfl, h.1⟩
  | _ :: ms, _ :: vs, j + 1, m, h, e => by
    obtain ⟨v, h1, h2⟩ := MdsOk.get (j := j) h.2 (by simpa using e)
    exact ⟨v, by simpa using h1, h2⟩
  | [], _ :: _, _, _, h, _ => h.elim
  | _ :: _, [], _, _, h, _ => h.elim
theorem handOk_spec {P' : List Nat} {ms : List Md} (h : handOk P' ms = true) {j i : Nat} (e : ms[j]? = some (Md.o i)) : j ∈ P' ∧ ∀ (l : Nat), ms[l]? = some (Md.o i) → l = j := by
  unfold handOk at h
  have hj := (List.all_eq_true.mp h) j (List.mem_range.mpr (List.getElem?_eq_some_iff.mp e).1)
  simp only [e, Bool.and_eq_true, decide_eq_true_eq] at hj
  refine ⟨hj.1, fun l el => ?_⟩
  have hl := (List.all_eq_true.mp hj.2) l (List.mem_range.mpr (List.getElem?_eq_some_iff.mp el).1)
  simp only [el, bne_self_eq_false, Bool.false_or, beq_iff_eq] at hl
  exact hl
/-- the callee's state: nothing lent -/
theorem callee_ok {Bf : Bk} {ow : Nat → Option Addr} {en : En} {σ : L2.St} {H : Hp} {ms : List Md} {vs : List V} {P' : Pl} (hP : P'.tb = P.tb) (k : Ok P Bf ow en σ H) (h : MdsOk Bf ow en H ms vs) (hb : ms.all (fun m => !isB m) = true) (hh : handOk P'.ps ms = true) :
    Ok P' ⟨blk Bf ow, fun _ => False⟩ (mdOw ow ms) (ms.map (mdSl en)) (vs.map some) H ∧ (∀ j a, mdOw ow ms j = some a → j ∈ P') ∧ ∀ (j : Nat) (d : D), (ms.map (mdSl en))[j]? ≠ some (Sl.vn d) := by
  have sub : ∀ b, blk ⟨blk Bf ow, fun _ => False⟩ (mdOw ow ms) b → blk Bf ow b := fun b z => by
    rcases z with z | ⟨j, z⟩
    · exact z
    · unfold mdOw at z
      split at z
      · exact .inr ⟨_, z⟩
      · cases z
  have mv : ∀ b o, H b = some o → NT o → ¬ blk Bf ow b → H b = some o ∧ ¬ blk ⟨blk Bf ow, fun _ => False⟩ (mdOw ow ms) b := fun b o e t n => ⟨e, fun z => n (sub b z)⟩
  have inP : ∀ j a, mdOw ow ms j = some a → j ∈ P' := fun j a e => by
    unfold mdOw at e
    split at e
    · rename_i i em
      exact (handOk_spec hh em).1
    · cases e
  have noN : ∀ (j : Nat) (d : D), (ms.map (mdSl en))[j]? ≠ some (Sl.vn d) := fun j d e => by
    rw [List.getElem?_map] at e
    cases em : ms[j]? with
    | none => rw [em] at e; cases e
    | some m =>
      rw [em] at e
      obtain ⟨v, h1, h2⟩ := h.get em
      cases m with
      | v d' => cases e
      | o i =>
        obtain ⟨a, h3, h4⟩ := h2
        obtain ⟨s', h5, h6⟩ := k.hdom i a h3
        simp [mdSl, h5] at e
        subst e
        cases h6
      | b i =>
        have := (List.all_eq_true.mp hb) _ (List.mem_of_getElem? em)
        simp [isB] at this
  refine ⟨⟨by simp [h.length], fun j d e => ?_, fun j d e => absurd e (noN j d), fun j s e f => ?_, fun j a e => ?_, fun j l a e1 e2 => ?_, fun b z => ?_, fun b z => z.elim, fun j a e hj => absurd (inP j a e) hj, by rw [hP]; exact k.htab⟩, inP, noN⟩
  · rw [List.getElem?_map] at e
    cases em : ms[j]? with
    | none => rw [em] at e; cases e
    | some m =>
      rw [em] at e
      obtain ⟨v, h1, h2⟩ := h.get em
      refine ⟨v, by rw [List.getElem?_map, h1]; rfl, ?_⟩
      cases m with
      | v d' =>
        cases e
        exact Rp.move mv h2
      | o i =>
        obtain ⟨a, h3, h4⟩ := h2
        obtain ⟨s', h5, h6⟩ := k.hdom i a h3
        simp [mdSl, h5] at e
        subst e
        cases h6
      | b i =>
        have := (List.all_eq_true.mp hb) _ (List.mem_of_getElem? em)
        simp [isB] at this
  · rw [List.getElem?_map] at e
    cases em : ms[j]? with
    | none => rw [em] at e; cases e
    | some m =>
      rw [em] at e
      obtain ⟨v, h1, h2⟩ := h.get em
      cases m with
      | v d' =>
        cases e
        cases f
      | o i =>
        obtain ⟨a, h3, h4⟩ := h2
        subst h4
        obtain ⟨s', h5, h6, g2, g3⟩ := k.hat h3
        simp [mdSl, h5] at e
        subst e
        exact ⟨a, by unfold mdOw; rw [em]; exact h3, by rw [List.getElem?_map, h1]; rfl, g3.move (fun o e _ => e) mv⟩
      | b i =>
        have := (List.all_eq_true.mp hb) _ (List.mem_of_getElem? em)
        simp [isB] at this
  · unfold mdOw at e
    split at e
    · rename_i i em
      obtain ⟨s', h5, h6⟩ := k.hdom i a e
      exact ⟨s', by rw [List.getElem?_map, em]; simp [mdSl, h5], h6⟩
    · cases e
  · unfold mdOw at e1 e2
    split at e1 <;> first | cases e1 | skip
    rename_i i em
    split at e2 <;> first | cases e2 | skip
    rename_i i' em'
    have := k.hinj i i' a e1 e2
    subst this
    exact (handOk_spec hh em').2 j em
  · rcases z with z | ⟨i, z⟩
    · exact k.hbf b z
    · obtain ⟨_, _, _, _, g3⟩ := k.hat z
      exact g3.ne
/-- what the callee has made of the lists that were handed over -/
def putBack : List Md → Nat → En → En → En
  | [], _, _, en => en
  | .o i :: ms, j, as', en => putBack ms (j + 1) as' (match as'[j]? with
    | some (.ow ds) => en.set i (.ow ds)
    | some (.dc t ds) => en.set i (.dc t ds)
    | _ => en)
  | _ :: ms, j, as', en => putBack ms (j + 1) as' en
theorem putBack_length : ∀ (ms : List Md) (j : Nat) (as' en : En), (putBack ms j as' en).length = en.length
  | [], _, _, _ => rfl
  | .o i :: ms, j, as', en => by
    unfold putBack
    rw [putBack_length ms]
    split <;> simp
  | .v _ :: ms, j, as', en => by unfold putBack; exact putBack_length ms _ _ _
  | .b _ :: ms, j, as', en => by unfold putBack; exact putBack_length ms _ _ _
theorem putBack_other {i : Nat} : ∀ (ms : List Md) (j : Nat) (as' en : En), (∀ (l : Nat), ms[l]? ≠ some (Md.o i)) → (putBack ms j as' en)[i]? = en[i]?
  | [], _, _, _, _ => rfl
  | .o i' :: ms, j, as', en, h => by
    unfold putBack
    have hne : i' ≠ i := fun z => h 0 (by rw [z]; rfl)
    rw [putBack_other ms _ _ _ fun l => by simpa using h (l + 1)]
    split
    · rw [List.getElem?_set_ne hne]
    · rw [List.getElem?_set_ne hne]
    · rfl
  | .v _ :: ms, j, as', en, h => by unfold putBack; exact putBack_other ms _ _ _ fun l => by simpa using h (l + 1)
  | .b _ :: ms, j, as', en, h => by unfold putBack; exact putBack_other ms _ _ _ fun l => by simpa using h (l + 1)
theorem putBack_at {i : Nat} {sl : Sl} (ho : isOwn sl = true) : ∀ (ms : List Md) (j l : Nat) (as' en : En), ms[l]? = some (Md.o i) → (∀ (l' : Nat), ms[l']? = some (Md.o i) → l' = l) → as'[j + l]? = some sl → i < en.length → (putBack ms j as' en)[i]? = some sl
  | [], _, _, _, _, h, _, _, _ => by simp at h
  | .o i' :: ms, j, 0, as', en, h, hu, ha, hl => by
    have e : i' = i := by simpa using h
    subst e
    unfold putBack
    rw [Nat.add_zero] at ha
    rw [ha]
    rw [putBack_other ms _ _ _ fun l z => by
      have := hu (l + 1) (by simpa using z)
      omega]
    cases sl with
    | ow ds => exact List.getElem?_set_self hl
    | dc t ds => exact List.getElem?_set_self hl
    | un => cases ho
    | va _ => cases ho
    | vn _ => cases ho
  | .o i' :: ms, j, l + 1, as', en, h, hu, ha, hl => by
    unfold putBack
    refine putBack_at ho ms (j + 1) l as' _ (by simpa using h) (fun l' z => by
      have := hu (l' + 1) (by simpa using z)
      omega) (by rw [← ha]; congr 1; omega) ?_
    split <;> simpa using hl
  | .v _ :: ms, j, 0, as', en, h, hu, ha, hl => by simp at h
  | .v _ :: ms, j, l + 1, as', en, h, hu, ha, hl => by
    unfold putBack
    exact putBack_at ho ms (j + 1) l as' _ (by simpa using h) (fun l' z => by
      have := hu (l' + 1) (by simpa using z)
      omega) (by rw [← ha]; congr 1; omega) hl
  | .b _ :: ms, j, 0, as', en, h, hu, ha, hl => by simp at h
  | .b _ :: ms, j, l + 1, as', en, h, hu, ha, hl => by
    unfold putBack
    exact putBack_at ho ms (j + 1) l as' _ (by simpa using h) (fun l' z => by
      have := hu (l' + 1) (by simpa using z)
      omega) (by rw [← ha]; congr 1; omega) hl
/-- behind the call; Bx: what is blocked for the callee (with a new list's address, if it gives one) -/
theorem caller_ok {Bf Bx : Bk} {ow : Nat → Option Addr} {en as' : En} {σ : L2.St} {H H' : Hp} {ms : List Md} {vs : List V} {P' : Pl} (hP : P'.tb = P.tb) (k : Ok P Bf ow en σ H) (h : MdsOk Bf ow en H ms vs) (hh : handOk P'.ps ms = true)
    (af : Aft P' Bx (mdOw ow ms) as' H H') (By : Bk) (h1 : ∀ b, blk Bf ow b → blk Bx (mdOw ow ms) b) (hy : ∀ b, blk By ow b → blk Bx (mdOw ow ms) b) (hyo : By.od = Bf.od)
    (mvy : ∀ b o, H b = some o → NT o → ¬ blk Bf ow b → H' b = some o ∧ ¬ blk By ow b) (hbf : ∀ b, By.bl b → H' b ≠ none) (hloc : ∀ i a, ow i = some a → i ∉ P → ¬ By.bl a) :
    Ok P By ow (putBack ms 0 as' en) σ H' ∧ Rel P H ow H' ow := by
  have keep : ∀ b o, H b = some o → NT o → (∀ i, ow i ≠ some b) → H' b = some o := fun b o e t n => af.keep b o e t fun j z => by
    unfold mdOw at z
    split at z
    · exact n _ z
    · cases z
  have mv2 : ∀ b o, H' b = some o → NT o → ¬ blk Bx (mdOw ow ms) b → H' b = some o ∧ ¬ blk By ow b := fun b o e t n => ⟨e, fun z => n (hy b z)⟩
  have cases_i : ∀ i, (∃ l : Nat, ms[l]? = some (Md.o i)) ∨ ∀ l : Nat, ms[l]? ≠ some (Md.o i) := fun i => by
    by_cases z : ∃ l : Nat, ms[l]? = some (Md.o i)
    · exact .inl z
    · exact .inr fun l e => z ⟨l, e⟩
  -- a slot that was handed over
  have handed : ∀ (i l : Nat), ms[l]? = some (Md.o i) → ∃ a sl, ow i = some a ∧ σ[i]? = some (some (.ref a)) ∧ (putBack ms 0 as' en)[i]? = some sl ∧ isOwn sl = true ∧ OwnAt H' (blk Bx (mdOw ow ms)) a sl := fun i l e => by
    obtain ⟨v, g1, a, g2, g3⟩ := h.get e
    obtain ⟨s0, g4, _, w2, _⟩ := k.hat g2
    obtain ⟨sl, g5, g6, g7⟩ := af.own l (handOk_spec hh e).1 a (by unfold mdOw; rw [e]; exact g2)
    refine ⟨a, sl, g2, w2, ?_, g6, g7⟩
    exact putBack_at g6 ms 0 l as' en e (handOk_spec hh e).2 (by rw [Nat.zero_add]; exact g5) (List.getElem?_eq_some_iff.mp g4).1
  have mvyN : ∀ b o, H b = some o → NT o → ¬ blkN Bf ow b → H' b = some o ∧ ¬ blkN By ow b := fun b o e t n => ⟨(mvy b o e t fun z => n (.inl z)).1, fun z => z.elim (mvy b o e t fun z => n (.inl z)).2 fun z => n (.inr (by rw [← hyo]; exact z))⟩
  refine ⟨⟨by rw [putBack_length]; exact k.hlen, fun i d e => ?_, fun i d e => ?_, fun i s e f => ?_, fun i a e => ?_, k.hinj, hbf, fun b z => af.dom b (k.hod b (by rw [← hyo]; exact z)), fun i a e hi => ⟨hloc i a e hi, by rw [hyo]; exact (k.hloc i a e hi).2⟩, by rw [← hP]; exact af.tab⟩, fun b o e t n => ⟨keep b o e t n, n⟩, af.dom, fun _ _ => rfl, fun _ _ z => z⟩
  · rcases cases_i i with ⟨l, z⟩ | z
    · obtain ⟨a, sl, g1, g2, g3, g4, _⟩ := handed i l z
      rw [g3] at e
      cases e
      cases g4
    · rw [putBack_other ms 0 as' en z] at e
      obtain ⟨v, g1, g2⟩ := k.hva i d e
      exact ⟨v, g1, g2.move mvy⟩
  · rcases cases_i i with ⟨l, z⟩ | z
    · obtain ⟨a, sl, g1, g2, g3, g4, _⟩ := handed i l z
      rw [g3] at e
      cases e
      cases g4
    · rw [putBack_other ms 0 as' en z] at e
      obtain ⟨v, g1, g2⟩ := k.hvn i d e
      exact ⟨v, g1, g2.move mvyN⟩
  · rcases cases_i i with ⟨l, z⟩ | z
    · obtain ⟨a, sl, g1, g2, g3, g4, g5⟩ := handed i l z
      rw [g3] at e
      cases e
      exact ⟨a, g1, g2, g5.move (fun o e _ => e) mv2⟩
    · rw [putBack_other ms 0 as' en z] at e
      obtain ⟨a, g1, g2, g3⟩ := k.hob i s e f
      refine ⟨a, g1, g2, g3.move (fun o e t => af.keep a o e t fun j w => ?_) mvy⟩
      unfold mdOw at w
      split at w
      · rename_i i' em
        have := k.hinj i' i a w g1
        subst this
        exact z j em
      · cases w
  · rcases cases_i i with ⟨l, z⟩ | z
    · obtain ⟨a, sl, g1, g2, g3, g4, g5⟩ := handed i l z
      exact ⟨sl, g3, g4⟩
    · obtain ⟨s, g, f⟩ := k.hdom i a e
      exact ⟨s, by rw [putBack_other ms 0 as' en z]; exact g, f⟩
end
end VL

namespace VL
open PySem PySem.Spec
open PyProof.Rows L2

section
variable {X : Cx} {P : Pl} {a b e : Expr} {es : List Expr} {fa fb : FE} {gm : FM} {pos apos cpos : Pos}
def noB (ms : List Md) : Bool := ms.all fun m => !isB m
def eCallF (P' : List Nat) (n : Nat) (F : FF) (g : FM) : FE := fun en => match g en with
  | some (ms, en1) => if handOk P' ms = true ∧ noB ms = true ∧ ms.length = n then (match F (ms.map (mdSl en1)) with
    | some (d, as') => some (d, putBack ms 0 as' en1)
    | none => none) else none
  | none => none
def lCallF (P' : List Nat) (n : Nat) (F : FFL) (g : FM) : FL := fun en => match g en with
  | some (ms, en1) => if handOk P' ms = true ∧ noB ms = true ∧ ms.length = n then (match F (ms.map (mdSl en1)) with
    | some (d, as') => some (d, putBack ms 0 as' en1)
    | none => none) else none
  | none => none
theorem tv_callF {P' : Pl} (hP : P'.tb = P.tb) {n : Nat} {F : FF} {E : XK} (σ : L2.St) (H : Hp) (Q : VK) (h : tv P (eCallF P'.ps n F gm) σ H Q) : tCall (spV P' n F) [] E (tvM P gm) σ H Q := by
  obtain ⟨Bf, ow, en, k, d, en', hf, q⟩ := h
  unfold eCallF at hf
  split at hf <;> first | cases hf | skip
  rename_i ms en1 h1
  split at hf <;> first | cases hf | skip
  rename_i hc
  obtain ⟨hh, hb, hl⟩ := hc
  split at hf <;> first | cases hf | skip
  rename_i d' as' hF
  refine ⟨Bf, ow, en, k, ms, en1, h1, fun vs ow1 H1 k1 r1 m1 => ?_⟩
  show spV P' n F (vs ++ []) H1 Q E
  rw [List.append_nil]
  obtain ⟨kc, hw, hn⟩ := callee_ok hP k1 m1 hb hh
  have sub : ∀ b, blk Bf ow1 b → blk ⟨blk Bf ow1, fun _ => False⟩ (mdOw ow1 ms) b := fun b z => .inl z
  refine ⟨_, _, _, by rw [List.length_map]; exact hl, kc, hw, hn, d, as', hF, fun v H' af p => ?_⟩
  have mvy : ∀ b o, H1 b = some o → NT o → ¬ blk Bf ow1 b → H' b = some o ∧ ¬ blk Bf ow1 b := fun b o e t nb => ⟨af.keep b o e t fun j z => (by
    unfold mdOw at z
    split at z
    · exact nb (.inr ⟨_, z⟩)
    · exact nomatch z), nb⟩
  obtain ⟨k2, r2⟩ := caller_ok hP k1 m1 hh af Bf sub sub rfl mvy (fun b z => af.dom b (k1.hbf b z)) fun i a e hi => (k1.hloc i a e hi).1
  exact q v ow1 H' k2 (r1.trans r2) (p.move fun b o e t nb => ⟨e, fun z => nb (sub b z)⟩)
theorem tvF_callF {P' : Pl} (hP : P'.tb = P.tb) {n : Nat} {F : FFL} {E : XK} (σ : L2.St) (H : Hp) (Q : VK) (h : tvF P (lCallF P'.ps n F gm) σ H Q) : tCall (spL P' n F) [] E (tvM P gm) σ H Q := by
  obtain ⟨Bf, ow, en, k, d, en', hf, q⟩ := h
  unfold lCallF at hf
  split at hf <;> first | cases hf | skip
  rename_i ms en1 h1
  split at hf <;> first | cases hf | skip
  rename_i hc
  obtain ⟨hh, hb, hl⟩ := hc
  split at hf <;> first | cases hf | skip
  rename_i d' as' hF
  refine ⟨Bf, ow, en, k, ms, en1, h1, fun vs ow1 H1 k1 r1 m1 => ?_⟩
  show spL P' n F (vs ++ []) H1 Q E
  rw [List.append_nil]
  obtain ⟨kc, hw, hn⟩ := callee_ok hP k1 m1 hb hh
  refine ⟨_, _, _, by rw [List.length_map]; exact hl, kc, hw, hn, d, as', hF, fun p xs H' af hp0 hp rs => ?_⟩
  have np := k1.nb hp0
  have sub : ∀ b, blk (insB Bf p) ow1 b → blk (insB ⟨blk Bf ow1, fun _ => False⟩ p) (mdOw ow1 ms) b := fun b z => by
    rcases insB_blk z with z | z
    · exact .inl (.inl z)
    · exact .inl (.inr z)
  have mvy : ∀ b o, H1 b = some o → NT o → ¬ blk Bf ow1 b → H' b = some o ∧ ¬ blk (insB Bf p) ow1 b := fun b o e t nb => ⟨af.keep b o e t fun j z => (by
    unfold mdOw at z
    split at z
    · exact nb (.inr ⟨_, z⟩)
    · exact nomatch z), fun z => (by
    rcases insB_blk z with z | z
    · exact nb z
    · subst z
      rw [hp0] at e
      exact nomatch e)⟩
  have hbf : ∀ b, (insB Bf p).bl b → H' b ≠ none := fun b z => by
    rcases z with z | z
    · exact af.dom b (k1.hbf b z)
    · subst z
      rw [hp]
      exact fun z => nomatch z
  have hloc : ∀ i a, ow1 i = some a → i ∉ P → ¬ (insB Bf p).bl a := fun i a e hi z => by
    rcases z with z | z
    · exact (k1.hloc i a e hi).1 z
    · subst z
      exact np (.inr ⟨i, e⟩)
  obtain ⟨k2, r2⟩ := caller_ok hP k1 m1 hh af (insB Bf p) (fun b z => sub b (blk_insB z)) sub rfl mvy hbf hloc
  have h0 : H p = none := by
    cases e : H p with
    | none => rfl
    | some o => exact absurd hp0 (r1.hsome p (by rw [e]; exact fun z => nomatch z))
  exact q p xs ow1 H' k2 (r1.trans r2) (fun z => np (.inl z)) (fun z => k1.hod p z hp0) (fun i z => np (.inr ⟨i, z⟩)) h0 hp (rs.move fun b o e t nb => ⟨e, fun z => nb (sub b z)⟩)
theorem ve_call {x : Str} {k n : Nat} {ps : List Str} {ps' : List Nat} {F : FF} {p : Pos} (D : Def X.prog X.w X.K X.mg X.base x k ps (spV ⟨ps', P.tb⟩ n F)) (hr : Room k X.A) (hg : Gl X x) (ha : VM X P (e :: es) gm)
    (hdb : (x == ("__debug__" : Str)) = false := by decide) (he : starEach (e :: es) X.env = (false, eval e X.env) :: starEach es X.env := by rfl) (hpl : (backTo pos (starEach es X.env)).any (·.1) = false := by rfl)
    : VE X P (.Call (.Name x p) (e :: es) [] pos) (eCallF ps' n F gm) := by
  obtain ⟨f, fd, h1, h2, h3, h4, _⟩ := D.ex
  exact PE.weak (pe_call (E := fun _ _ _ => False) h4 hr hg h1 h2 h3 .nil pass0 ha hdb he hpl) (tv_callF (P := P) (P' := ⟨ps', P.tb⟩) rfl)
theorem vf_call {x : Str} {k n : Nat} {ps : List Str} {ps' : List Nat} {F : FFL} {p : Pos} (D : Def X.prog X.w X.K X.mg X.base x k ps (spL ⟨ps', P.tb⟩ n F)) (hr : Room k X.A) (hg : Gl X x) (ha : VM X P (e :: es) gm)
    (hdb : (x == ("__debug__" : Str)) = false := by decide) (he : starEach (e :: es) X.env = (false, eval e X.env) :: starEach es X.env := by rfl) (hpl : (backTo pos (starEach es X.env)).any (·.1) = false := by rfl)
    : VF X P (.Call (.Name x p) (e :: es) [] pos) (lCallF ps' n F gm) := by
  obtain ⟨f, fd, h1, h2, h3, h4, _⟩ := D.ex
  exact PE.weak (pe_call (E := fun _ _ _ => False) h4 hr hg h1 h2 h3 .nil pass0 ha hdb he hpl) (tvF_callF (P := P) (P' := ⟨ps', P.tb⟩) rfl)
/-! ### lists that are lent, to a def that gives back a flat value -/
def noO (ms : List Md) : Bool := ms.all fun m => !isO m
def eCallB (n : Nat) (F : FF) (g : FM) : FE := fun en => match g en with
  | some (ms, en1) => if noO ms = true ∧ ms.length = n then (match F (ms.map (mdSl en1)) with
    | some (d, _) => if flatD d = true then some (d, en1) else none
    | none => none) else none
  | none => none
theorem tv_callB {n : Nat} {F : FF} {E : XK} (σ : L2.St) (H : Hp) (Q : VK) (h : tv P (eCallB n F gm) σ H Q) : tCall (spV ⟨[], P.tb⟩ n F) [] E (tvM P gm) σ H Q := by
  obtain ⟨Bf, ow, en, k, d, en', hf, q⟩ := h
  unfold eCallB at hf
  split at hf <;> first | cases hf | skip
  rename_i ms en1 h1
  split at hf <;> first | cases hf | skip
  rename_i hc
  obtain ⟨ho, hl⟩ := hc
  split at hf <;> first | cases hf | skip
  rename_i d' as' hF
  split at hf <;> first | cases hf | skip
  rename_i hfl
  refine ⟨Bf, ow, en, k, ms, _, h1, fun vs ow1 H1 k1 r1 m1 => ?_⟩
  show spV ⟨[], P.tb⟩ n F (vs ++ []) H1 Q E
  rw [List.append_nil]
  let Bc : Bk := ⟨fun b => blk Bf ow1 b ∧ ¬ ∃ j i : Nat, ms[j]? = some (Md.b i) ∧ ow1 i = some b, fun _ => False⟩
  have sub : ∀ b, blk Bc (fun _ => none) b → blk Bf ow1 b := fun b z => by
    rcases z with z | ⟨j, z⟩
    · exact z.1
    · cases z
  have mv : ∀ b o, H1 b = some o → NT o → ¬ blk Bf ow1 b → H1 b = some o ∧ ¬ blk Bc (fun _ => none) b := fun b o e t n => ⟨e, fun z => n (sub b z)⟩
  have noOw : ∀ (j i : Nat), ms[j]? ≠ some (Md.o i) := fun j i e => by
    have := (List.all_eq_true.mp ho) _ (List.mem_of_getElem? e)
    simp [isO] at this
  have noN : ∀ (j : Nat) (d : D), (ms.map (mdSl en'))[j]? ≠ some (Sl.vn d) := fun j d e => by
    rw [List.getElem?_map] at e
    cases em : ms[j]? with
    | none => rw [em] at e; cases e
    | some m =>
      rw [em] at e
      cases m with
      | v d' => cases e
      | o i => exact absurd em (noOw j i)
      | b i =>
        have e' : (mdSl en' (.b i)) = .vn d := Option.some.inj e
        simp only [mdSl] at e'
        split at e' <;> cases e'
  have kc : Ok ⟨[], P.tb⟩ Bc (fun _ => none) (ms.map (mdSl en')) (vs.map some) H1 := by
    refine ⟨by simp [m1.length], fun j d e => ?_, fun j d e => absurd e (noN j d), fun j s e f => ?_, fun j a e => (nomatch e), fun j l a e _ => (nomatch e), fun b z => ?_, fun b z => z.elim, fun j a e => (nomatch e), k1.htab⟩
    · rw [List.getElem?_map] at e
      cases em : ms[j]? with
      | none => rw [em] at e; cases e
      | some m =>
        rw [em] at e
        obtain ⟨v, g1, g2⟩ := m1.get em
        refine ⟨v, by rw [List.getElem?_map, g1]; rfl, ?_⟩
        cases m with
        | v d' =>
          cases e
          exact Rp.move mv g2
        | o i => exact absurd em (noOw j i)
        | b i =>
          obtain ⟨a, g3, g4⟩ := g2
          obtain ⟨s0, g5, f0, w2, w34⟩ := k1.hat g3
          have e' : (mdSl en' (.b i)) = .va d := Option.some.inj e
          cases s0 with
          | dc t kvs =>
            simp only [mdSl, g5] at e'
            cases e'
          | un => cases f0
          | va _ => cases f0
          | vn _ => cases f0
          | ow ds =>
          simp only [mdSl, g5] at e'
          cases e'
          obtain ⟨xs, w3, w4⟩ := w34
          subst g4
          refine .lst (fun z => ?_) (.inl w3) (w4.move mv)
          rcases z with z | ⟨l, z⟩
          · exact z.2 ⟨j, i, em, g3⟩
          · cases z
    · rw [List.getElem?_map] at e
      cases em : ms[j]? with
      | none => rw [em] at e; cases e
      | some m =>
        rw [em] at e
        cases m with
        | v d' =>
          cases e
          cases f
        | o i => exact absurd em (noOw j i)
        | b i =>
          have e' : (mdSl en' (.b i)) = s := Option.some.inj e
          subst e'
          simp only [mdSl] at f
          split at f <;> cases f
    · rcases z.1 with z | ⟨i, z⟩
      · exact k1.hbf b z
      · obtain ⟨_, _, _, _, g3⟩ := k1.hat z
        exact g3.ne
  refine ⟨Bc, fun _ => none, _, by rw [List.length_map]; exact hl, kc, (fun i a e => (nomatch e)), noN, d, as', hF, fun v H' af p => ?_⟩
  have ex : ExtT P.tb H1 H' := ⟨fun b o e t => af.keep b o e t fun j z => (nomatch z), af.dom, fun _ => af.tab⟩
  exact q v ow1 H' (k1.extT ex) (r1.trans ex.rel) (p.flat hfl)
theorem ve_callLent {x : Str} {k n : Nat} {ps : List Str} {F : FF} {p : Pos} (D : Def X.prog X.w X.K X.mg X.base x k ps (spV ⟨[], P.tb⟩ n F)) (hr : Room k X.A) (hg : Gl X x) (ha : VM X P (e :: es) gm)
    (hdb : (x == ("__debug__" : Str)) = false := by decide) (he : starEach (e :: es) X.env = (false, eval e X.env) :: starEach es X.env := by rfl) (hpl : (backTo pos (starEach es X.env)).any (·.1) = false := by rfl) :
    VE X P (.Call (.Name x p) (e :: es) [] pos) (eCallB n F gm) := by
  obtain ⟨f, fd, h1, h2, h3, h4, _⟩ := D.ex
  exact PE.weak (pe_call (E := fun _ _ _ => False) h4 hr hg h1 h2 h3 .nil pass0 ha hdb he hpl) tv_callB
end
end VL

namespace VL
open PySem PySem.Spec
open PyProof.Rows L2

/-! ### what is walked -/
/-- the iterator J gives the items ds, as long as what was reached stands -/
def Wk (J : It) (B : Addr → Prop) (H1 : Hp) (ds : List D) : Prop := ∀ (B' : Addr → Prop) (H : Hp) (i : Nat), (∀ b o, H1 b = some o → NT o → ¬ B b → H b = some o ∧ ¬ B' b) → (∀ p, H p = none → ¬ B' p) →
  (∀ d, ds[i]? = some d → J.go i H ∧ ∀ x H', J.yld i H x H' → Ext H H' ∧ Rp H' B' d x) ∧ (i = ds.length → J.stop i H)
def tvI (P : Pl) (f : FL) : TI := fun σ H R => ∃ Bf ow en, Ok P Bf ow en σ H ∧ ∃ ds en', f en = some (ds, en') ∧
  ∀ J ow' H', Ok P Bf ow' en' σ H' → Rel P H ow H' ow' → Wk J (blk Bf ow') H' ds → R J H'
def VI (X : Cx) (P : Pl) (tg iter : Expr) (f : FL) : Prop := PI X tg iter (tvI P f)
theorem PI.weak {X : Cx} {tg iter : Expr} {t t' : TI} (h : PI X tg iter t) (w : ∀ σ H R, t' σ H R → t σ H R) : PI X tg iter t' :=
  ⟨fun pins s σ H R I q => h.run pins s σ H R I (w σ H R q)⟩
theorem PI.or {X : Cx} {tg iter : Expr} {t t' : TI} (h : PI X tg iter t) (h' : PI X tg iter t') : PI X tg iter (fun σ H R => t σ H R ∨ t' σ H R) :=
  ⟨fun pins s σ H R I q => q.elim (h.run pins s σ H R I) (h'.run pins s σ H R I)⟩
section
variable {X : Cx} {P : Pl} {a b e tg : Expr} {es : List Expr} {fa fb : FE} {ga : FA} {pos apos cpos p : Pos}
/-- the two ways (a list, a tuple) are parted by the value: both readings evaluate the expression once -/
def iSeq (K : PySem.W.Frag) (t : TE) : TI := fun σ H R => t σ H fun x H1 => ∃ a, x = .ref a ∧ ((∃ xs, SqL K H1 a xs ∧ R (Itl K a) H1) ∨ ∃ xs, SqT K H1 a xs ∧ R (Itt K a) H1)
theorem pi_seq {l : Expr} {tl : TE} (hl : PE X l tl) : PI X tg l (iSeq X.K tl) := by
  refine ⟨fun pins s σ H R I h => ?_⟩
  refine thn (hl.run pins s σ H _ I h) fun v s1 ⟨x, H1, I1, r1, q1⟩ => ?_
  obtain ⟨a, e, q⟩ := q1
  subst e
  cases r1
  rcases q with ⟨xs, hq, q⟩ | ⟨xs, hq, q⟩
  · obtain ⟨its, rv, p, hz⟩ := I1.list hq
    refine wpAny_pyIter_list p.isList ?_
    refine ⟨s1.heap.objs.size, [s1.heap.objs.size], _, _, H1, rfl, I1.kept (t' := s1.toks) fun b o e => Heap.get?_push_of_some _ e, turn_list a _, ⟨_, Heap.get?_push_size _ rfl, rfl, rfl⟩, fun b hb => ?_, q⟩
    have e : b = s1.heap.objs.size := by simpa using hb
    subst e
    exact I1.fpOk (Nat.le_refl _) (I1.hok.fresh (Nat.le_refl _))
  · obtain ⟨its, rv, p, hz⟩ := I1.tuple hq
    refine wpAny_pyIter_tuple (show s1.heap.IsTuple a its.toArray from p) ?_
    refine ⟨s1.heap.objs.size, [s1.heap.objs.size], _, _, H1, rfl, I1.kept (t' := s1.toks) fun b o e => Heap.get?_push_of_some _ e, turn_tuple a _, ⟨_, Heap.get?_push_size _ rfl, rfl, rfl⟩, fun b hb => ?_, q⟩
    have e : b = s1.heap.objs.size := by simpa using hb
    subst e
    exact I1.fpOk (Nat.le_refl _) (I1.hok.fresh (Nat.le_refl _))
def iItems (f : FE) : FL := fun en => match f en with
  | some (.list ds, en1) => some (ds, en1)
  | some (.tuple ds, en1) => some (ds, en1)
  | _ => none
theorem vi_seq (ha : VE X P a fa) : VI X P tg a (iItems fa) := PI.weak (pi_seq ha) fun σ H R h => by
  obtain ⟨Bf, ow, en, k, ds, en', hf, q⟩ := h
  unfold iItems at hf
  split at hf
  · rename_i ds' en1 h1
    cases hf
    refine ⟨Bf, ow, en, k, _, _, h1, fun v ow1 H1 k1 r1 p1 => ?_⟩
    cases p1 with
    | lst nb r rs =>
      refine ⟨_, rfl, .inl ⟨_, .inl r, q _ ow1 H1 k1 r1 fun B' H2 i mv nb' => ⟨fun d e => ?_, fun e => ?_⟩⟩⟩
      · obtain ⟨v, h2, h3⟩ := rs.get e
        have r2 := Rd.keep r fun o e' t' => (mv _ _ e' t' nb).1
        exact ⟨⟨_, v, .inl r2, h2⟩, fun x H' y => by
          obtain ⟨rfl, y⟩ := y
          have := y _ (.inl r2)
          rw [h2] at this
          cases this
          exact ⟨.refl, h3.move mv⟩⟩
      · exact ⟨_, .inl (Rd.keep r fun o e' t' => (mv _ _ e' t' nb).1), by rw [← rs.length, e]; exact Nat.le_refl _⟩
  · rename_i ds' en1 h1
    cases hf
    refine ⟨Bf, ow, en, k, _, _, h1, fun v ow1 H1 k1 r1 p1 => ?_⟩
    cases p1 with
    | tup nb r rs =>
      refine ⟨_, rfl, .inr ⟨_, SqT.of r, q _ ow1 H1 k1 r1 fun B' H2 i mv nb' => ⟨fun d e => ?_, fun e => ?_⟩⟩⟩
      · obtain ⟨v, h2, h3⟩ := rs.get e
        have r2 := (mv _ _ r (fun _ z => nomatch z) nb).1
        exact ⟨⟨_, v, SqT.of r2, h2⟩, fun x H' y => by
          obtain ⟨rfl, y⟩ := y
          have := y _ (SqT.of r2)
          rw [h2] at this
          cases this
          exact ⟨.refl, h3.move mv⟩⟩
      · exact ⟨_, SqT.of (mv _ _ r (fun _ z => nomatch z) nb).1, by rw [← rs.length, e]; exact Nat.le_refl _⟩
  · cases hf
def rangeD (lo : Int) (n : Nat) : List D := (List.range n).map fun i => .int (lo + (i : Nat))
theorem wk_range {B : Addr → Prop} {H : Hp} (lo : Int) (n : Nat) : Wk (Itr lo n) B H (rangeD lo n) := fun B' H2 i mv nb => by
  refine ⟨fun d e => ?_, fun e => ?_⟩
  · unfold rangeD at e
    rw [List.getElem?_map] at e
    by_cases h : i < n
    · rw [List.getElem?_range h] at e
      cases e
      refine ⟨h, fun x H' y => ?_⟩
      obtain ⟨rfl, rfl⟩ := y
      exact ⟨.refl, .int _⟩
    · rw [List.getElem?_eq_none (by simpa using h)] at e
      cases e
  · have e' : i = n := by simpa [rangeD] using e
    show n ≤ i
    omega
def iRange1 (f : FA) : FL := fun en => match f en with
  | some ([.int j], en1) => if -(2 ^ 62) ≤ j ∧ j < 2 ^ 62 then some (rangeD 0 j.toNat, en1) else none
  | _ => none
def iRange2 (f : FA) : FL := fun en => match f en with
  | some ([.int i, .int j], en1) => if -(2 ^ 62) ≤ i ∧ i < 2 ^ 62 ∧ -(2 ^ 62) ≤ j ∧ j < 2 ^ 62 then some (rangeD i (j - i).toNat, en1) else none
  | _ => none
theorem vi_range1 (hg : Gl X "range") (hm : X.mg "range" = none) (ha : VA X P [a] ga) (hs : starEach [a] X.env = [(false, eval a X.env)] := by rfl) : VI X P tg (.Call (.Name "range" p) [a] [] pos) (iRange1 ga) := PI.weak (pi_range1 hg hm ha hs) fun σ H R h => by
  obtain ⟨Bf, ow, en, k, ds, en', hf, q⟩ := h
  unfold iRange1 at hf
  split at hf <;> first | cases hf | skip
  rename_i j en1 h1
  split at hf <;> first | cases hf | skip
  rename_i hj
  exact ⟨Bf, ow, en, k, _, _, h1, fun vs ow1 H1 k1 r1 p1 => by
    cases p1 with
    | cons p p1 =>
      cases p
      cases p1
      exact ⟨j, rfl, hj.1, hj.2, q _ ow1 H1 k1 r1 (wk_range 0 _)⟩⟩
theorem vi_range2 (hg : Gl X "range") (hm : X.mg "range" = none) (ha : VA X P [a, b] ga) (hs : starEach [a, b] X.env = [(false, eval a X.env), (false, eval b X.env)] := by rfl) (hs2 : starEach [b] X.env = [(false, eval b X.env)] := by rfl) :
    VI X P tg (.Call (.Name "range" p) [a, b] [] pos) (iRange2 ga) := PI.weak (pi_range2 hg hm ha hs hs2) fun σ H R h => by
  obtain ⟨Bf, ow, en, k, ds, en', hf, q⟩ := h
  unfold iRange2 at hf
  split at hf <;> first | cases hf | skip
  rename_i i j en1 h1
  split at hf <;> first | cases hf | skip
  rename_i hj
  exact ⟨Bf, ow, en, k, _, _, h1, fun vs ow1 H1 k1 r1 p1 => by
    cases p1 with
    | cons p p1 =>
      cases p
      cases p1 with
      | cons p p1 =>
        cases p
        cases p1
        exact ⟨i, j, rfl, hj, q _ ow1 H1 k1 r1 (wk_range i _)⟩⟩
def zipD : List D → List D → List D
  | x :: xs, y :: ys => .tuple [x, y] :: zipD xs ys
  | _, _ => []
theorem zipD_get : ∀ (xs ys : List D) (i : Nat) (d : D), (zipD xs ys)[i]? = some d → ∃ x y, xs[i]? = some x ∧ ys[i]? = some y ∧ d = .tuple [x, y]
  | x :: xs, y :: ys, 0, d, e => by
    have e' : PyData.tuple [x, y] = d := by simpa [zipD] using e
    exact ⟨x, y, rfl, rfl, e'.symm⟩
  | x :: xs, y :: ys, i + 1, d, e => zipD_get xs ys i d (by simpa [zipD] using e)
  | [], _, _, _, e => by simp [zipD] at e
  | _ :: _, [], _, _, e => by simp [zipD] at e
theorem zipD_len : ∀ (xs ys : List D), (zipD xs ys).length = min xs.length ys.length
  | x :: xs, y :: ys => by simp [zipD, zipD_len xs ys]
  | [], _ => by simp [zipD]
  | _ :: _, [] => by simp [zipD]
def iZipD (f : FA) : FL := fun en => match f en with
  | some ([.list xs, .list ys], en1) => some (zipD xs ys, en1)
  | some ([.tuple xs, .tuple ys], en1) => some (zipD xs ys, en1)
  | _ => none
theorem vi_zip {elts : List Expr} {kk : Nat} {tpos : Pos} (hg : Gl X "zip") (hm : X.mg "zip" = none) (ha : VA X P [a, b] ga)
    (hs : starEach [a, b] X.env = (false, eval a X.env) :: starEach [b] X.env := by rfl) (hpl : (backTo pos (starEach [b] X.env)).any (·.1) = false := by rfl) : VI X P (.Tuple elts kk tpos) (.Call (.Name "zip" p) [a, b] [] pos) (iZipD ga) := PI.weak (RZ.pi_zipA hg hm ha hs hpl) fun σ H R h => by
  obtain ⟨Bf, ow, en, k, ds, en', hf, q⟩ := h
  unfold iZipD at hf
  split at hf
  · rename_i xs ys en1 h1
    cases hf
    refine ⟨Bf, ow, en, k, _, _, h1, fun vs ow1 H1 k1 r1 p1 => ?_⟩
    cases p1 with
    | cons p p1 =>
      cases p1 with
      | cons p2 p1 =>
        cases p1
        cases p with
        | lst n1 d1 s1 =>
          cases p2 with
          | lst n2 d2 s2 =>
            refine ⟨_, _, _, _, rfl, .inl ⟨.inl d1, .inl d2, q _ ow1 H1 k1 r1 fun B' H2 i mv nb' => ⟨fun d e => ?_, fun e => ?_⟩⟩⟩
            · obtain ⟨x, y, e1, e2, rfl⟩ := zipD_get _ _ _ _ e
              obtain ⟨v1, g1, g2⟩ := s1.get e1
              obtain ⟨v2, g3, g4⟩ := s2.get e2
              have q1 := Rd.keep d1 fun o e' t' => (mv _ _ e' t' n1).1
              have q2 := Rd.keep d2 fun o e' t' => (mv _ _ e' t' n2).1
              refine ⟨⟨_, _, v1, v2, .inl q1, .inl q2, g1, g3⟩, fun x' H' y' => ?_⟩
              obtain ⟨T, u1, u2, rfl, hT, rfl, z1, z2⟩ := y'
              have w1 := z1 _ (.inl q1)
              have w2 := z2 _ (.inl q2)
              rw [g1] at w1
              rw [g3] at w2
              cases w1
              cases w2
              exact ⟨.upd hT, .tup (nb' T hT) upd_same (.cons ((Ext.upd hT).rp (g2.move mv)) (.cons ((Ext.upd hT).rp (g4.move mv)) .nil))⟩
            · refine ⟨_, _, .inl (Rd.keep d1 fun o e' t' => (mv _ _ e' t' n1).1), .inl (Rd.keep d2 fun o e' t' => (mv _ _ e' t' n2).1), ?_⟩
              rw [zipD_len] at e
              rw [← s1.length, ← s2.length]
              omega
  · rename_i xs ys en1 h1
    cases hf
    refine ⟨Bf, ow, en, k, _, _, h1, fun vs ow1 H1 k1 r1 p1 => ?_⟩
    cases p1 with
    | cons p p1 =>
      cases p1 with
      | cons p2 p1 =>
        cases p1
        cases p with
        | tup n1 d1 s1 =>
          cases p2 with
          | tup n2 d2 s2 =>
            refine ⟨_, _, _, _, rfl, .inr ⟨SqT.of d1, SqT.of d2, q _ ow1 H1 k1 r1 fun B' H2 i mv nb' => ⟨fun d e => ?_, fun e => ?_⟩⟩⟩
            · obtain ⟨x, y, e1, e2, rfl⟩ := zipD_get _ _ _ _ e
              obtain ⟨v1, g1, g2⟩ := s1.get e1
              obtain ⟨v2, g3, g4⟩ := s2.get e2
              have q1 := SqT.of (K := X.K) (mv _ _ d1 (fun _ z => nomatch z) n1).1
              have q2 := SqT.of (K := X.K) (mv _ _ d2 (fun _ z => nomatch z) n2).1
              refine ⟨⟨_, _, v1, v2, q1, q2, g1, g3⟩, fun x' H' y' => ?_⟩
              obtain ⟨T, u1, u2, rfl, hT, rfl, z1, z2⟩ := y'
              have w1 := z1 _ q1
              have w2 := z2 _ q2
              rw [g1] at w1
              rw [g3] at w2
              cases w1
              cases w2
              exact ⟨.upd hT, .tup (nb' T hT) upd_same (.cons ((Ext.upd hT).rp (g2.move mv)) (.cons ((Ext.upd hT).rp (g4.move mv)) .nil))⟩
            · refine ⟨_, _, SqT.of (mv _ _ d1 (fun _ z => nomatch z) n1).1, SqT.of (mv _ _ d2 (fun _ z => nomatch z) n2).1, ?_⟩
              rw [zipD_len] at e
              rw [← s1.length, ← s2.length]
              omega
  · cases hf

/-! ### for -/
def forD (body : D → En → Option Out) : List D → FS
  | [], en => some (.nx en)
  | d :: r, en => match body d en with
    | some (.nx en1) => forD body r en1
    | some (.ct en1) => forD body r en1
    | some (.bk en1) => some (.nx en1)
    | some (.rt v en1) => some (.rt v en1)
    | some (.rf v en1) => some (.rf v en1)
    | none => none
def turnD (g : FG) (f : FS) (d : D) (en : En) : Option Out := match g d en with
  | some en1 => f en1
  | none => none
def sFor (fi : FL) (g : FG) (f : FS) : FS := fun en => match fi en with
  | some (ds, en1) => forD (turnD g f) ds en1
  | none => none
theorem vs_for {iter : Expr} {body : List Stmt} {fi : FL} {g : FG} {f : FS} {ts : List Nat} (hp : PassesOwn (model X.prog X.w) X.A X.env X.xe) (hc : X.calm = true) (hi : VI X P tg iter fi) (hg : VG X P tg ts g) (hb : VB X P body f)
    (hs : ∀ x, foldedSetIterable iter X.env x = pure x := by intro _; rfl) : VS X P (.For tg iter body [] pos) (sFor fi g f) := PS.weak (ps_for hp hc hi hg hb hs) fun Dn σ H h => by
  obtain ⟨Bf, ow, en, k, o, hf, q⟩ := h
  unfold sFor at hf
  split at hf <;> first | cases hf | skip
  rename_i ds en1 h1
  refine ⟨Bf, ow, en, k, ds, en1, h1, fun J ow1 H1 k1 r1 wk => ?_⟩
  let Pv : Nat → L2.St → Hp → Prop := fun i σ' H' => i ≤ ds.length ∧ ∃ ow' en', Ok P Bf ow' en' σ' H' ∧ RelS P H1 ow1 H' ow' ∧ forD (turnD g f) (ds.drop i) en' = some o
  have qo : post P Bf Dn H1 ow1 o := q.trans r1.s
  refine ⟨fun i m σ' H' => m = ds.length - i ∧ Pv i σ' H', ⟨_, rfl, Nat.zero_le _, ow1, en1, k1, .refl, by simpa using hf⟩, ?_⟩
  rintro i m σ2 H2 ⟨rfl, hle, ow2, en2, k2, r2, e2⟩
  have W := wk (blk Bf ow2) H2 i (fun b o e t n => r2.mv b o e t n) (fun p hp => k2.nb hp)
  by_cases hlt : i < ds.length
  · have ed : ds[i]? = some ds[i] := List.getElem?_eq_getElem hlt
    obtain ⟨w1, w2⟩ := W.1 _ ed
    refine .inr ⟨w1, Pv (i + 1), fun σ' H' p' => ⟨ds.length - (i + 1), by omega, rfl, p'⟩, fun x H3 y => ?_⟩
    obtain ⟨ex, p⟩ := w2 x H3 y
    rw [List.drop_eq_getElem_cons hlt] at e2
    unfold forD turnD at e2
    cases eg : g ds[i] en2 with
    | none => rw [eg] at e2; cases e2
    | some en3 =>
      rw [eg] at e2
      simp only at e2
      refine ⟨Bf, ow2, en2, ds[i], k2.ext ex, p, en3, eg, fun ow3 σ3 k3 r3 _ => ?_⟩
      have r23 : RelS P H1 ow1 H3 ow3 := r2.trans (ex.rel.trans r3).s
      cases ef : f en3 with
      | none => rw [ef] at e2; cases e2
      | some o3 =>
        refine ⟨Bf, ow3, en3, k3, o3, ef, ?_⟩
        rw [ef] at e2
        cases o3 with
        | nx en4 => exact fun ow4 σ4 H4 k4 r4 => ⟨hlt, ow4, en4, k4, r23.trans r4, e2⟩
        | ct en4 => exact fun ow4 σ4 H4 k4 r4 => ⟨hlt, ow4, en4, k4, r23.trans r4, e2⟩
        | bk en4 =>
          cases e2
          exact fun ow4 σ4 H4 k4 r4 => qo ow4 σ4 H4 k4 (r23.trans r4)
        | rt v en4 =>
          cases e2
          exact qo.trans r23
        | rf v en4 =>
          cases e2
          exact qo.trans r23
  · have e : i = ds.length := by omega
    subst e
    rw [List.drop_length] at e2
    cases e2
    exact .inl ⟨W.2 rfl, qo ow2 σ2 H2 k2 r2⟩

/-! ### comprehensions -/
def wipeE (en : En) : List Nat → En
  | [] => en
  | v :: vs => (wipeE en vs).set v .un
theorem wipeE_un : ∀ (vs : List Nat) (en : En) (i : Nat), i ∈ vs → ∀ s, (wipeE en vs)[i]? = some s → s = .un
  | [], _, _, h, _, _ => by simp at h
  | v :: vs, en, i, h, s, e => by
    unfold wipeE at e
    by_cases hv : v = i
    · subst hv
      by_cases hl : v < (wipeE en vs).length
      · rw [List.getElem?_set_self hl] at e
        cases e
        rfl
      · rw [List.getElem?_eq_none (by simpa using hl)] at e
        cases e
    · rw [List.getElem?_set_ne hv] at e
      exact wipeE_un vs en i (by
        rcases List.mem_cons.mp h with h | h
        · exact absurd h.symm hv
        · exact h) s e
section
variable {Bf : Bk} {ow : Nat → Option Addr} {en : En} {σ : L2.St} {H : Hp}
/-- a slot is forgotten -/
theorem Ok.forget (k : Ok P Bf ow en σ H) (i : Nat) : Ok P Bf (dropOw ow i) (en.set i .un) (σ.set i none) H := by
  have mv : ∀ b o, H b = some o → NT o → ¬ blk Bf ow b → H b = some o ∧ ¬ blk Bf (dropOw ow i) b := fun b o e t n => ⟨e, fun z => n (dropOw_blk z)⟩
  have mvN : ∀ b o, H b = some o → NT o → ¬ blkN Bf ow b → H b = some o ∧ ¬ blkN Bf (dropOw ow i) b := fun b o e t n => ⟨e, fun z => n (z.elim (fun z => .inl (dropOw_blk z)) .inr)⟩
  refine ⟨by simp [k.hlen], fun j d' e' => ?_, fun j d' e' => ?_, fun j s' e' f => ?_, fun j b e' => ?_, fun j l b e1 e2 => k.hinj j l b (dropOw_sub _ _ e1) (dropOw_sub _ _ e2), k.hbf, k.hod, fun j b e' hj => k.hloc j b (dropOw_sub _ _ e') hj, k.htab⟩
  · by_cases hj : j = i
    · subst hj
      by_cases hl : j < en.length
      · rw [List.getElem?_set_self hl] at e'
        cases e'
      · rw [List.getElem?_eq_none (by simpa using hl)] at e'
        cases e'
    · rw [List.getElem?_set_ne (Ne.symm hj)] at e' ⊢
      obtain ⟨w, h1, h2⟩ := k.hva j d' e'
      exact ⟨w, h1, h2.move mv⟩
  · by_cases hj : j = i
    · subst hj
      by_cases hl : j < en.length
      · rw [List.getElem?_set_self hl] at e'
        cases e'
      · rw [List.getElem?_eq_none (by simpa using hl)] at e'
        cases e'
    · rw [List.getElem?_set_ne (Ne.symm hj)] at e' ⊢
      obtain ⟨w, h1, h2⟩ := k.hvn j d' e'
      exact ⟨w, h1, h2.move mvN⟩
  · by_cases hj : j = i
    · subst hj
      by_cases hl : j < en.length
      · rw [List.getElem?_set_self hl] at e'
        cases e'
        cases f
      · rw [List.getElem?_eq_none (by simpa using hl)] at e'
        cases e'
    · rw [List.getElem?_set_ne (Ne.symm hj)] at e' ⊢
      obtain ⟨b, g1, g2, g3⟩ := k.hob j s' e' f
      exact ⟨b, by unfold dropOw; rw [if_neg hj]; exact g1, g2, g3.move (fun o e _ => e) mv⟩
  · have e2 := dropOw_sub _ _ e'
    unfold dropOw at e'
    split at e'
    · cases e'
    · rename_i hj
      rw [List.getElem?_set_ne (Ne.symm hj)]
      exact k.hdom j b e2
theorem Ok.wipe (k : Ok P Bf ow en σ H) : ∀ (vs : List Nat), (∀ i ∈ vs, i ∉ P) → ∃ ow', Ok P Bf ow' (wipeE en vs) (L2.wipe σ vs) H ∧ Rel P H ow H ow'
  | [], _ => ⟨ow, k, .refl⟩
  | v :: vs, h => by
    obtain ⟨ow', k', r'⟩ := Ok.wipe k vs fun i hi => h i (List.mem_cons_of_mem _ hi)
    exact ⟨_, k'.forget v, r'.trans (dropOw_rel (h v (by simp)))⟩
/-- back to the frame's slots -/
theorem Ok.unwipe {vs : List Nat} (k : Ok P Bf ow en (L2.wipe σ vs) H) (hu : ∀ i ∈ vs, ∀ s, en[i]? = some s → s = .un) : Ok P Bf ow en σ H := by
  have back : ∀ (i : Nat) (v : V), (L2.wipe σ vs)[i]? = some (some v) → σ[i]? = some (some v) := fun i v e => (wipe_some e).1
  exact ⟨by rw [← k.hlen, wipe_length], fun i d e => let ⟨v, h1, h2⟩ := k.hva i d e; ⟨v, back _ _ h1, h2⟩, fun i d e => let ⟨v, h1, h2⟩ := k.hvn i d e; ⟨v, back _ _ h1, h2⟩, fun i s e f => let ⟨a, h1, h2, h3⟩ := k.hob i s e f; ⟨a, h1, back _ _ h2, h3⟩, k.hdom, k.hinj, k.hbf, k.hod, k.hloc, k.htab⟩
end
theorem wipe_get (σ : L2.St) (i : Nat) : ∀ vs : List Nat, (L2.wipe σ vs)[i]? = if i ∈ vs then (σ[i]?).map (fun _ => none) else σ[i]?
  | [] => by simp [L2.wipe]
  | v :: vs => by
    unfold L2.wipe
    have ih := wipe_get σ i vs
    by_cases h : v = i
    · subst h
      rw [if_pos List.mem_cons_self]
      by_cases hl : v < σ.length
      · rw [List.getElem?_set_self (by rw [wipe_length]; exact hl), List.getElem?_eq_getElem hl]
        rfl
      · rw [List.getElem?_eq_none (by rw [List.length_set, wipe_length]; omega), List.getElem?_eq_none (by omega)]
        rfl
    · rw [List.getElem?_set_ne h, ih]
      by_cases hi : i ∈ vs
      · rw [if_pos hi, if_pos (List.mem_cons_of_mem _ hi)]
      · rw [if_neg hi, if_neg (fun z => (List.mem_cons.mp z).elim (fun z => h z.symm) hi)]
theorem wipe_idem (σ : L2.St) (vs : List Nat) : L2.wipe (L2.wipe σ vs) vs = L2.wipe σ vs := by
  apply List.ext_getElem?
  intro i
  rw [wipe_get, wipe_get]
  by_cases h : i ∈ vs
  · rw [if_pos h, if_pos h]
    cases σ[i]? <;> rfl
  · rw [if_neg h, if_neg h]
def compD (g : FG) (tt : FT) (te : FE) (vs : List Nat) : List D → En → List D → Option (List D × En)
  | [], en, acc => some (acc, en)
  | d :: r, en, acc => match g d en with
    | some en1 => match tt en1 with
      | some (true, en2) => match te en2 with
        | some (y, en3) => if acc.length < sizeLine then compD g tt te vs r (wipeE en3 vs) (acc ++ [y]) else none
        | none => none
      | some (false, en2) => compD g tt te vs r (wipeE en2 vs) acc
      | none => none
    | none => none
def lComp (fi : FL) (g : FG) (tt : FT) (te : FE) (vs : List Nat) : FL := fun en => match fi en with
  | some (ds, en1) => compD g tt te vs ds (wipeE en1 vs) []
  | none => none
def tYesV : FT := fun en => some (true, en)
def VTs (X : Cx) (P : Pl) (ifs : List Expr) (f : FT) : Prop := PTs X ifs (tvT P f)
theorem vts_nil : VTs X P [] tYesV := ⟨fun pins s σ H Q I h => by
  obtain ⟨Bf, ow, en, k, b, en', hf, q⟩ := h
  cases hf
  exact pts_nil.run pins s σ H Q I (q ow H k .refl)⟩
theorem vts_one {c : Expr} {t : FT} (h : VT X P c t) : VTs X P [c] t := pts_one h
theorem compD_un {g : FG} {tt : FT} {te : FE} {vs : List Nat} : ∀ (ds : List D) (en : En) (acc out : List D) (en' : En), compD g tt te vs ds en acc = some (out, en') → (∀ i ∈ vs, ∀ s, en[i]? = some s → s = .un) → ∀ i ∈ vs, ∀ s, en'[i]? = some s → s = .un
  | [], en, acc, out, en', e, h => by
    unfold compD at e
    cases e
    exact h
  | d :: r, en, acc, out, en', e, h => by
    unfold compD at e
    split at e <;> first | cases e | skip
    split at e
    · split at e <;> first | cases e | skip
      split at e <;> first | cases e | skip
      exact compD_un r _ _ _ _ e fun i hi s q => wipeE_un vs _ i hi s q
    · exact compD_un r _ _ _ _ e fun i hi s q => wipeE_un vs _ i hi s q
    · cases e
/-- the reading of a comprehension, by data -/
theorem tvF_lc {fi : FL} {g : FG} {tt : FT} {te : FE} {vs ts : List Nat} (hvP : ∀ i ∈ vs, i ∉ P) (hts : ∀ i ∈ ts, i ∈ vs) (σ : L2.St) (H : Hp) (Q : VK) (h : tvF P (lComp fi g tt te vs) σ H Q) : tLc (tvI P fi) (tvG P ts g) (tvT P tt) (tv P te) vs σ H Q := by
  obtain ⟨Bf, ow, en, k, out, en', hf, q⟩ := h
  unfold lComp at hf
  split at hf <;> first | cases hf | skip
  rename_i ds en1 h1
  refine ⟨Bf, ow, en, k, ds, en1, h1, fun J ow1 H1 k1 r1 wk Dd hD => ?_⟩
  obtain ⟨oww, kw, rw⟩ := Ok.wipe k1 vs hvP
  let Pv : Nat → Hp → Prop := fun i H' => i ≤ ds.length ∧ ∃ ow' en2 acc xs, Ok P (insB Bf Dd) ow' en2 (L2.wipe σ vs) H' ∧ Rel P H1 ow1 H' ow' ∧ (∀ j, ow' j ≠ some Dd) ∧ H' Dd = some (.lst xs) ∧ RpL H' (blk (insB Bf Dd) ow') acc xs ∧
    (∀ i ∈ vs, ∀ s, en2[i]? = some s → s = .un) ∧ compD g tt te vs (ds.drop i) en2 acc = some (out, en')
  have npD := kw.nb hD
  refine ⟨fun i m H' => m = ds.length - i ∧ Pv i H', ⟨_, rfl, Nat.zero_le _, oww, _, [], [], kw.avoid hD, rw.trans (Ext.upd hD).rel, fun j z => npD (.inr ⟨j, z⟩), upd_same, .nil, fun i hi s e => wipeE_un vs en1 i hi s e, by simpa using hf⟩, ?_⟩
  rintro i m H2 ⟨rfl, hle, ow2, en2, acc, xs, k2, r2, nD, eD, rs, un2, e2⟩
  have mv2 : ∀ b o, H1 b = some o → NT o → ¬ blk Bf ow1 b → H2 b = some o ∧ ¬ blk (insB Bf Dd) ow2 b := fun b o e t n => by
    obtain ⟨z1, z2⟩ := r2.mv (Bf := Bf) b o e t n
    refine ⟨z1, fun z => ?_⟩
    rcases insB_blk z with z | z
    · exact z2 z
    · subst z
      rw [hD] at e
      cases e
  have W := wk (blk (insB Bf Dd) ow2) H2 i mv2 (fun p hp => k2.nb hp)
  by_cases hlt : i < ds.length
  · have ed : ds[i]? = some ds[i] := List.getElem?_eq_getElem hlt
    obtain ⟨w1, w2⟩ := W.1 _ ed
    refine .inr ⟨w1, Pv (i + 1), fun H' p' => ⟨ds.length - (i + 1), by omega, rfl, p'⟩, fun x H3 y => ?_⟩
    obtain ⟨ex, p⟩ := w2 x H3 y
    rw [List.drop_eq_getElem_cons hlt] at e2
    unfold compD at e2
    cases eg : g ds[i] en2 with
    | none => rw [eg] at e2; cases e2
    | some en3 =>
      rw [eg] at e2
      simp only at e2
      refine ⟨insB Bf Dd, ow2, en2, ds[i], k2.ext ex, p, en3, eg, fun ow3 σ3 k3 r3 w3' => ?_⟩
      have w3 : L2.wipe σ3 vs = L2.wipe σ vs := (w3' vs hts).trans (wipe_idem σ vs)
      refine ⟨w3, ?_⟩
      have r13 : Rel P H1 ow1 H3 ow3 := r2.trans (ex.rel.trans r3)
      have nD3 : ∀ j, ow3 j ≠ some Dd := fun j z => nD j (r3.hsub j _ z)
      cases et : tt en3 with
      | none => rw [et] at e2; cases e2
      | some bt =>
        obtain ⟨b, en4⟩ := bt
        rw [et] at e2
        refine ⟨insB Bf Dd, ow3, en3, k3, b, en4, et, fun ow4 H4 k4 r4 => ?_⟩
        have eD4 : H4 Dd = some (.lst xs) := (r4.hkeep Dd _ (ex _ _ eD) (fun _ z => nomatch z) nD3).1
        have nD4 : ∀ j, ow4 j ≠ some Dd := fun j z => nD3 j (r4.hsub j _ z)
        have rs4 : RpL H4 (blk (insB Bf Dd) ow4) acc xs := (ex.rel.trans (r3.trans r4)).rpl rs
        cases b with
        | false =>
          simp only at e2
          change Pv (i + 1) H4
          obtain ⟨ow5, k5, r5⟩ := Ok.wipe k4 vs hvP
          rw [w3] at k5
          exact ⟨hlt, ow5, _, acc, xs, k5, (r13.trans r4).trans r5, fun j z => nD4 j (r5.hsub j _ z), eD4, r5.rpl rs4, fun i hi s e => wipeE_un vs _ i hi s e, e2⟩
        | true =>
          simp only at e2
          refine (show tv P te σ3 H4 _ from ?_)
          cases ee : te en4 with
          | none => rw [ee] at e2; cases e2
          | some yt =>
            obtain ⟨yd, en5⟩ := yt
            rw [ee] at e2
            simp only at e2
            split at e2 <;> first | cases e2 | skip
            rename_i hz
            refine ⟨insB Bf Dd, ow4, en4, k4, yd, en5, ee, fun v ow5 H5 k5 r5 p5 => ?_⟩
            have eD5 : H5 Dd = some (.lst xs) := (r5.hkeep Dd _ eD4 (fun _ z => nomatch z) nD4).1
            have nD5 : ∀ j, ow5 j ≠ some Dd := fun j z => nD4 j (r5.hsub j _ z)
            have rs5 := r5.rpl rs4
            refine ⟨xs, eD5, by rw [← rs4.length]; exact hz, ?_⟩
            -- the new list is written: nothing reaches it
            have mvD : ∀ (B : Nat → Option Addr), (∀ j, B j ≠ some Dd) → ∀ b o, H5 b = some o → NT o → ¬ blk (insB Bf Dd) B b → upd H5 Dd (.lst (xs ++ [v])) b = some o ∧ ¬ blk (insB Bf Dd) B b := fun B _ b o e t n =>
              ⟨by rw [upd_ne fun z => n (.inl (.inr z))]; exact e, n⟩
            have smD : ∀ b, H5 b ≠ none → upd H5 Dd (.lst (xs ++ [v])) b ≠ none := fun b hb => by
              by_cases z : b = Dd
              · rw [z, upd_same]
                exact fun z => nomatch z
              · rw [upd_ne z]
                exact hb
            have k6 : Ok P (insB Bf Dd) ow5 en5 σ3 (upd H5 Dd (.lst (xs ++ [v]))) :=
              ⟨k5.hlen, fun i d e => let ⟨w, g1, g2⟩ := k5.hva i d e; ⟨w, g1, g2.move (mvD ow5 nD5)⟩, fun i d e => let ⟨w, g1, g2⟩ := k5.hvn i d e; ⟨w, g1, g2.move fun b o e t n => ⟨(mvD ow5 nD5 b o e t fun z => n (.inl z)).1, n⟩⟩, fun i s e f => let ⟨a, g1, g2, g3⟩ := k5.hob i s e f; ⟨a, g1, g2, g3.move (fun o e _ => by rw [upd_ne fun z => nD5 i (by rw [← z]; exact g1)]; exact e) (mvD ow5 nD5)⟩,
                k5.hdom, k5.hinj, fun b z => smD b (k5.hbf b z), fun b z => smD b (k5.hod b z), k5.hloc, tabs_upd k5.htab eD5 (fun _ z => nomatch z) fun _ z => nomatch z⟩
            have r6 : Rel P H1 ow1 (upd H5 Dd (.lst (xs ++ [v]))) ow5 := by
              have r15 := (r13.trans r4).trans r5
              exact ⟨fun b o e t n => ⟨by
                rw [upd_ne fun z => by rw [z, hD] at e; cases e]
                exact (r15.hkeep b o e t n).1, (r15.hkeep b o e t n).2⟩, fun b hb => smD b (r15.hsome b hb), r15.hpin, r15.hsub⟩
            obtain ⟨ow7, k7, r7⟩ := Ok.wipe k6 vs hvP
            rw [w3] at k7
            exact ⟨hlt, ow7, _, _, _, k7, r6.trans r7, fun j z => nD5 j (r7.hsub j _ z), upd_same, r7.rpl ((rs5.append (.cons p5 .nil)).move (mvD ow5 nD5)), fun i hi s e => wipeE_un vs _ i hi s e, e2⟩
  · have e : i = ds.length := by omega
    subst e
    rw [List.drop_length] at e2
    cases e2
    refine .inl ⟨W.2 rfl, ?_⟩
    have hD0 : H Dd = none := by
      cases z : H Dd with
      | none => rfl
      | some o => exact absurd hD (r1.hsome Dd (by rw [z]; exact fun z => nomatch z))
    have nb0 := k1.nb hD
    exact q Dd xs ow2 H2 (k2.unwipe un2) (r1.trans r2) (fun z => nb0 (.inl z)) (fun z => k1.hod Dd z hD) nD hD0 eD rs
end
end VL

namespace VL
open PySem PySem.Spec
open PyProof.Rows L2

section
variable {X : Cx} {P : Pl} {a b e elt tg iter : Expr} {es ifs : List Expr} {fa fb : FE} {ga : FA} {pos apos cpos p : Pos} {scope : Scope} {own : List (Str × Nat)}
/-! ### comprehensions: as a value, as what a name gets -/
theorem vf_lc {fi : FL} {g : FG} {tt : FT} {te : FE} {ts vs : List Nat} (hc : X.calm = true) (hN : X.N.Nodup) (hi : VI X P tg iter fi) (ok : BlkOk X.N X.env.scope scope own)
    (hvs : own.map (·.2) = vs) (hvP : ∀ i ∈ vs, i ∉ P) (hts : ∀ i ∈ ts, i ∈ vs)
    (hg : ∀ (s : Shared) (H : Hp) (C : Addr) (cl : List (Str × Addr)) (fp : List Addr), VG (X.blk s H scope (compEnvC scope cl C X.env) fp) P tg ts g) (ht : ∀ (s : Shared) (H : Hp) (C : Addr) (cl : List (Str × Addr)) (fp : List Addr), VTs (X.blk s H scope (compEnvC scope cl C X.env) fp) P ifs tt)
    (he : ∀ (s : Shared) (H : Hp) (C : Addr) (cl : List (Str × Addr)) (fp : List Addr), VE (X.blk s H scope (compEnvC scope cl C X.env) fp) P elt te) (hs : ∀ x, foldedSetIterable iter X.env x = pure x := by intro _; rfl) :
    VF X P (.ListComp elt [⟨tg, iter, ifs, 0⟩] scope pos) (lComp fi g tt te vs) :=
  PE.weak (pe_lc hc hN hi ok hg ht he hs) (by rw [hvs]; exact tvF_lc hvP hts)
theorem own_reads {f : FL} {t : TE} {i : Nat} (hP : i ∉ P) (w : ∀ σ H Q, tvF P f σ H Q → t σ H Q) (Dn : Ends) (σ : L2.St) (H : Hp) (h : tvS P (sOwn i f) Dn σ H) : tAsg t (gName i) Dn σ H := by
  refine w σ H _ ?_
  obtain ⟨Bf, ow, en, k, o, hf, q⟩ := h
  unfold sOwn at hf
  split at hf <;> first | cases hf | skip
  rename_i ds en1 h1
  split at hf <;> first | cases hf | skip
  rename_i hl
  exact ⟨Bf, ow, en, k, _, _, h1, fun p xs ow1 H1 k1 r1 b1 b2 b3 b4 hp rs => q _ _ _ (k1.put hP hl b1 b2 b3 hp rs) (put_rel hP r1 b4)⟩
theorem set_reads {f : FL} {t : TE} {i : Nat} (hP : i ∉ P) (w : ∀ σ H Q, tvF P f σ H Q → t σ H Q) (Dn : Ends) (σ : L2.St) (H : Hp) (h : tvS P (sSet i (eNew f)) Dn σ H) : tAsg t (gName i) Dn σ H := by
  refine w σ H _ ?_
  obtain ⟨Bf, ow, en, k, o, hf, q⟩ := h
  unfold sSet eNew at hf
  cases h0 : f en with
  | none => rw [h0] at hf; cases hf
  | some r =>
    obtain ⟨ds, en1⟩ := r
    rw [h0] at hf
    simp only at hf
    cases hf
    refine ⟨Bf, ow, en, k, ds, en1, h0, fun p xs ow1 H1 k1 r1 b1 b2 b3 b4 hp rs => ?_⟩
    have p1 : Rp H1 (blk Bf ow1) (.list ds) (.ref p) := .lst (new_nb b1 b3) (.inl hp) rs.unins
    have p2 := p1.move (H' := H1) (B' := blk Bf (dropOw ow1 i)) fun b o e t n => ⟨e, fun z => n (dropOw_blk z)⟩
    exact q _ _ _ (k1.unins.set hP p2) (r1.trans (dropOw_rel hP)).s
section
variable {fi : FL} {g : FG} {tt : FT} {te : FE} {ts vs : List Nat} {i : Nat} {y : Str} {py spos : Pos}
theorem vs_ownLc (hc : X.calm = true) (hN : X.N.Nodup) (hy : X.N[i]? = some y) (hyl : X.env.scope.names.lookup y = some .local) (hP : i ∉ P)
    (hsw : swapsWith (.ListComp elt [⟨tg, iter, ifs, 0⟩] scope pos) (some (.Name y py)) spos.line X.env = pure true) (hi : VI X P tg iter fi) (ok : BlkOk X.N X.env.scope scope own)
    (hvs : own.map (·.2) = vs) (hvP : ∀ i ∈ vs, i ∉ P) (hts : ∀ i ∈ ts, i ∈ vs)
    (hg : ∀ (s : Shared) (H : Hp) (C : Addr) (cl : List (Str × Addr)) (fp : List Addr), VG (X.blk s H scope (compEnvC scope cl C X.env) fp) P tg ts g) (ht : ∀ (s : Shared) (H : Hp) (C : Addr) (cl : List (Str × Addr)) (fp : List Addr), VTs (X.blk s H scope (compEnvC scope cl C X.env) fp) P ifs tt)
    (he : ∀ (s : Shared) (H : Hp) (C : Addr) (cl : List (Str × Addr)) (fp : List Addr), VE (X.blk s H scope (compEnvC scope cl C X.env) fp) P elt te) (hs : ∀ x, foldedSetIterable iter X.env x = pure x := by intro _; rfl) :
    VS X P (.Assign [.Name y py] (.ListComp elt [⟨tg, iter, ifs, 0⟩] scope pos) spos) (sOwn i (lComp fi g tt te vs)) :=
  PS.weak (ps_setLc hc hN hy hyl hsw hi ok hg ht he hs) (own_reads hP (by rw [hvs]; exact tvF_lc hvP hts))
theorem vs_setLc (hc : X.calm = true) (hN : X.N.Nodup) (hy : X.N[i]? = some y) (hyl : X.env.scope.names.lookup y = some .local) (hP : i ∉ P)
    (hsw : swapsWith (.ListComp elt [⟨tg, iter, ifs, 0⟩] scope pos) (some (.Name y py)) spos.line X.env = pure true) (hi : VI X P tg iter fi) (ok : BlkOk X.N X.env.scope scope own)
    (hvs : own.map (·.2) = vs) (hvP : ∀ i ∈ vs, i ∉ P) (hts : ∀ i ∈ ts, i ∈ vs)
    (hg : ∀ (s : Shared) (H : Hp) (C : Addr) (cl : List (Str × Addr)) (fp : List Addr), VG (X.blk s H scope (compEnvC scope cl C X.env) fp) P tg ts g) (ht : ∀ (s : Shared) (H : Hp) (C : Addr) (cl : List (Str × Addr)) (fp : List Addr), VTs (X.blk s H scope (compEnvC scope cl C X.env) fp) P ifs tt)
    (he : ∀ (s : Shared) (H : Hp) (C : Addr) (cl : List (Str × Addr)) (fp : List Addr), VE (X.blk s H scope (compEnvC scope cl C X.env) fp) P elt te) (hs : ∀ x, foldedSetIterable iter X.env x = pure x := by intro _; rfl) :
    VS X P (.Assign [.Name y py] (.ListComp elt [⟨tg, iter, ifs, 0⟩] scope pos) spos) (sSet i (eNew (lComp fi g tt te vs))) :=
  PS.weak (ps_setLc hc hN hy hyl hsw hi ok hg ht he hs) (set_reads hP (by rw [hvs]; exact tvF_lc hvP hts))
end

/-! ### built-ins by data -/
def gLen : List D → Option D
  | [.list xs] => some (.int xs.length)
  | [.tuple xs] => some (.int xs.length)
  | [.str y] => if y.length ≤ sizeLine then some (.int y.length) else none
  | _ => none
theorem ca_len {K : PySem.W.Frag} : CaV (fun xs H Q => ∃ x n, xs = [x] ∧ LenV K x H n ∧ Q (.int n) H) gLen := by
  intro H B ds d vs Q e r nb q
  unfold gLen at e
  split at e
  · cases e
    cases r with
    | cons p r =>
      cases r
      cases p with
      | lst n1 d1 s1 => exact ⟨_, _, rfl, .inl ⟨_, .inl d1, rfl⟩, q _ H .refl (by rw [← s1.length]; exact .int _)⟩
  · cases e
    cases r with
    | cons p r =>
      cases r
      cases p with
      | tup n1 d1 s1 => exact ⟨_, _, rfl, .inr ⟨_, SqT.of d1, rfl⟩, q _ H .refl (by rw [← s1.length]; exact .int _)⟩
  · split at e <;> first | cases e | skip
    rename_i hy
    cases r with
    | cons p r =>
      cases r
      cases p
      exact ⟨_, _, rfl, ⟨hy, rfl⟩, q _ H .refl (.int _)⟩
  · cases e
def gMax2 : List D → Option D
  | [.int i, .int j] => some (.int (if j > i then j else i))
  | _ => none
def gMin2 : List D → Option D
  | [.int i, .int j] => some (.int (if j < i then j else i))
  | _ => none
theorem ca_max2 : CaV (fun xs H Q => ∃ i j, xs = [.int i, .int j] ∧ Q (.int (if j > i then j else i)) H) gMax2 := by
  intro H B ds d vs Q e r nb q
  unfold gMax2 at e
  split at e <;> first | cases e | skip
  cases r with
  | cons p r =>
    cases r with
    | cons p2 r =>
      cases r
      cases p
      cases p2
      exact ⟨_, _, rfl, q _ H .refl (.int _)⟩
theorem ca_min2 : CaV (fun xs H Q => ∃ i j, xs = [.int i, .int j] ∧ Q (.int (if j < i then j else i)) H) gMin2 := by
  intro H B ds d vs Q e r nb q
  unfold gMin2 at e
  split at e <;> first | cases e | skip
  cases r with
  | cons p r =>
    cases r with
    | cons p2 r =>
      cases r
      cases p
      cases p2
      exact ⟨_, _, rfl, q _ H .refl (.int _)⟩
def gInt : List D → Option D
  | [.int i] => some (.int i)
  | [.bool b] => some (.int (if b then 1 else 0))
  | _ => none
theorem ca_int : CaV (fun xs H Q => (∃ i, xs = [V.int i] ∧ Q (.int i) H) ∨ ∃ k, xs = [V.bl k] ∧ Q (.int (if k then 1 else 0)) H) gInt := by
  intro H B ds d vs Q e r nb q
  unfold gInt at e
  split at e
  · cases e
    cases r with
    | cons p r =>
      cases r
      cases p
      exact .inl ⟨_, rfl, q _ H .refl (.int _)⟩
  · cases e
    cases r with
    | cons p r =>
      cases r
      cases p
      exact .inr ⟨_, rfl, q _ H .refl (.int _)⟩
  · cases e
def gStr : List D → Option D
  | [.int i] => if i.natAbs.log2 < 1920 then some (.str (toString i)) else none
  | _ => none
theorem ca_str : CaV (fun xs H Q => ∃ i : Int, xs = [V.int i] ∧ i.natAbs.log2 < 1920 ∧ Q (.str (toString i)) H) gStr := by
  intro H B ds d vs Q e r nb q
  unfold gStr at e
  split at e <;> first | cases e | skip
  split at e <;> first | cases e | skip
  rename_i h
  cases r with
  | cons p r =>
    cases r
    cases p
    exact ⟨_, rfl, h, q _ H .refl (.str _)⟩
def gSum : List D → Option D
  | [.list xs] => match intsOf xs with
    | some ns => some (.int ns.sum)
    | none => none
  | _ => none
theorem ca_sum {K : PySem.W.Frag} : CaV (rSum K) gSum := by
  intro H B ds d vs Q e r nb q
  unfold gSum at e
  split at e <;> first | cases e | skip
  split at e <;> first | cases e | skip
  rename_i ns h
  have := intsOf_eq h
  subst this
  cases r with
  | cons p r =>
    cases r
    cases p with
    | lst n1 d1 s1 =>
      have := s1.ints
      subst this
      exact ⟨_, ns, rfl, .inl d1, q _ H .refl (.int _)⟩
def boolsOf : List D → Option (List Bool)
  | [] => some []
  | .bool i :: r => (boolsOf r).map (i :: ·)
  | _ => none
theorem boolsOf_eq : ∀ {ds : List D} {ns : List Bool}, boolsOf ds = some ns → ds = ns.map .bool
  | [], ns, h => by cases h; rfl
  | .bool i :: r, ns, h => by
    cases e : boolsOf r with
    | none => simp [boolsOf, e] at h
    | some ms =>
      simp [boolsOf, e] at h
      subst h
      rw [boolsOf_eq e]
      rfl
  | .none :: r, _, h => by simp [boolsOf] at h
  | .int _ :: r, _, h => by simp [boolsOf] at h
  | .str _ :: r, _, h => by simp [boolsOf] at h
  | .list _ :: r, _, h => by simp [boolsOf] at h
  | .tuple _ :: r, _, h => by simp [boolsOf] at h
  | .dict _ :: r, _, h => by simp [boolsOf] at h
theorem boolsOf_map : ∀ ns : List Bool, boolsOf (ns.map .bool) = some ns
  | [] => rfl
  | n :: ns => by simp [boolsOf, boolsOf_map ns]
def gAll : List D → Option D
  | [.list xs] => match boolsOf xs with
    | some ns => some (.bool (ns.all id))
    | none => none
  | _ => none
def gAny : List D → Option D
  | [.list xs] => match boolsOf xs with
    | some ns => some (.bool (ns.any id))
    | none => none
  | _ => none
theorem ca_all {K : PySem.W.Frag} : CaV (rAll K) gAll := by
  intro H B ds d vs Q e r nb q
  unfold gAll at e
  split at e <;> first | cases e | skip
  split at e <;> first | cases e | skip
  rename_i ns h
  have := boolsOf_eq h
  subst this
  cases r with
  | cons p r =>
    cases r
    cases p with
    | lst n1 d1 s1 =>
      have := s1.bools
      subst this
      exact ⟨_, ns, rfl, .inl d1, q _ H .refl (.bl _)⟩
theorem ca_any {K : PySem.W.Frag} : CaV (rAny K) gAny := by
  intro H B ds d vs Q e r nb q
  unfold gAny at e
  split at e <;> first | cases e | skip
  split at e <;> first | cases e | skip
  rename_i ns h
  have := boolsOf_eq h
  subst this
  cases r with
  | cons p r =>
    cases r
    cases p with
    | lst n1 d1 s1 =>
      have := s1.bools
      subst this
      exact ⟨_, ns, rfl, .inl d1, q _ H .refl (.bl _)⟩
def gListOf : List D → Option (List D)
  | [.list xs] => some xs
  | [.tuple xs] => some xs
  | _ => none
theorem ca_list {K : PySem.W.Frag} : CaL (fun xs H Q => ∃ p ys, xs = [V.ref p] ∧ (SqL K H p ys ∨ SqT K H p ys) ∧ ∀ l, H l = none → Q (.ref l) (upd H l (.lst ys))) gListOf := by
  intro H B ds d vs Q e r q
  unfold gListOf at e
  split at e
  · cases e
    cases r with
    | cons p r =>
      cases r
      cases p with
      | lst n1 d1 s1 => exact ⟨_, _, rfl, .inl (.inl d1), fun l hl => q l _ hl s1⟩
  · cases e
    cases r with
    | cons p r =>
      cases r
      cases p with
      | tup n1 d1 s1 => exact ⟨_, _, rfl, .inr (SqT.of d1), fun l hl => q l _ hl s1⟩
  · cases e
def gTupOf : List D → Option D
  | [.list xs] => some (.tuple xs)
  | [.tuple xs] => some (.tuple xs)
  | _ => none
theorem ca_tuple {K : PySem.W.Frag} : CaV (fun xs H Q => ∃ p ys, xs = [V.ref p] ∧ ((SqL K H p ys ∧ ∀ l, H l = none → Q (.ref l) (upd H l (.tup ys))) ∨ (SqT K H p ys ∧ Q (.ref p) H))) gTupOf := by
  intro H B ds d vs Q e r nb q
  unfold gTupOf at e
  split at e
  · cases e
    cases r with
    | cons p r =>
      cases r
      cases p with
      | lst n1 d1 s1 => exact ⟨_, _, rfl, .inl ⟨.inl d1, fun l hl => q _ _ (.upd hl) (.tup (nb l hl) upd_same ((Ext.upd hl).rpl s1))⟩⟩
  · cases e
    cases r with
    | cons p r =>
      cases r
      cases p with
      | tup n1 d1 s1 => exact ⟨_, _, rfl, .inr ⟨SqT.of d1, q _ H .refl (.tup n1 d1 s1)⟩⟩
  · cases e

/-! ### slices of lists and tuples -/
def cutD (xs : List D) (lo hi : Option Int) : List D := (xs.drop (HT.sIx xs.length 0 lo)).take (HT.sIx xs.length xs.length hi - HT.sIx xs.length 0 lo)
abbrev FO := En → Option (Option Int × En)
def tvO (P : Pl) (f : FO) : TO := fun σ H Q => ∃ Bf ow en, Ok P Bf ow en σ H ∧ ∃ o en', f en = some (o, en') ∧ ∀ ow' H', Ok P Bf ow' en' σ H' → Rel P H ow H' ow' → Q o H'
def VO (X : Cx) (P : Pl) (e : Option Expr) (f : FO) : Prop := PO X e (tvO P f)
def oNone : FO := fun en => some (none, en)
def oSome (f : FE) : FO := fun en => match f en with
  | some (.int i, en1) => some (some i, en1)
  | _ => none
theorem PO.weak {e : Option Expr} {t t' : TO} (h : PO X e t) (w : ∀ σ H Q, t' σ H Q → t σ H Q) : PO X e t' :=
  ⟨fun pins s σ H Q I q => h.run pins s σ H Q I (w σ H Q q)⟩
theorem vo_none : VO X P none oNone := PO.weak po_none fun σ H Q h => by
  obtain ⟨Bf, ow, en, k, o, en', hf, q⟩ := h
  cases hf
  exact q ow H k .refl
theorem vo_some (h : VE X P e fa) : VO X P (some e) (oSome fa) := PO.weak (po_some h) fun σ H Q h => by
  obtain ⟨Bf, ow, en, k, o, en', hf, q⟩ := h
  unfold oSome at hf
  split at hf <;> first | cases hf | skip
  rename_i i h1
  exact ⟨Bf, ow, en, k, _, _, h1, fun v ow1 H1 k1 r1 p1 => by
    cases p1
    exact ⟨_, rfl, q ow1 H1 k1 r1⟩⟩
theorem RpL.cut {H : Hp} {B : Addr → Prop} {ds : List D} {xs : List V} (rs : RpL H B ds xs) (lo hi : Option Int) : RpL H B (cutD ds lo hi) (cutV xs lo hi) := by
  unfold cutD cutV
  rw [← rs.length]
  exact (rs.drop _).take _
def sliceD : D → Option Int → Option Int → Option D
  | .list xs, lo, hi => some (.list (cutD xs lo hi))
  | .tuple xs, lo, hi => if (cutD xs lo hi).length < xs.length then some (.tuple (cutD xs lo hi)) else none
  | _, _, _ => none
def eSl (f : FE) (fl fh : FO) : FE := fun en => match f en with
  | some (d, en1) => match fl en1 with
    | some (lo, en2) => match fh en2 with
      | some (hi, en3) => match sliceD d lo hi with
        | some z => some (z, en3)
        | none => none
      | none => none
    | none => none
  | none => none
theorem sIx_full {α : Type} (xs : List α) (lo hi : Option Int) (h1 : HT.sIx xs.length 0 lo = 0) (h2 : HT.sIx xs.length xs.length hi = xs.length) : (xs.drop (HT.sIx xs.length 0 lo)).take (HT.sIx xs.length xs.length hi - HT.sIx xs.length 0 lo) = xs := by
  rw [h1, h2]
  simp
theorem ve_slice {lo hi : Option Expr} {fl fh : FO} {p2 : Pos} (he : VE X P e fa) (hl : VO X P lo fl) (hu : VO X P hi fh) : VE X P (.Subscript e (.Slice lo hi none p2) pos) (eSl fa fl fh) :=
  PE.weak (pe_slice (sl_list.or sl_tup) he hl hu) fun σ H Q h => by
    obtain ⟨Bf, ow, en, k, d, en', hf, q⟩ := h
    unfold eSl at hf
    split at hf <;> first | cases hf | skip
    rename_i d0 en1 h0
    split at hf <;> first | cases hf | skip
    rename_i lo' en2 h1
    split at hf <;> first | cases hf | skip
    rename_i hi' en3 h2
    split at hf <;> first | cases hf | skip
    rename_i z h3
    refine ⟨Bf, ow, en, k, _, _, h0, fun v ow1 H1 k1 r1 p1 => ⟨Bf, ow1, en1, k1, _, _, h1, fun ow2 H2 k2 r2 => ⟨Bf, ow2, en2, k2, _, _, h2, fun ow3 H3 k3 r3 => ?_⟩⟩⟩
    have p3 := r3.rp (r2.rp p1)
    unfold sliceD at h3
    split at h3
    · cases h3
      cases p3 with
      | lst nb rd rs =>
        refine .inl ⟨_, _, rfl, .inl rd, fun pp hp => ?_⟩
        have rc := rs.cut lo' hi'
        exact q _ ow3 _ (k3.ext (.upd hp)) ((r1.trans (r2.trans r3)).trans (Ext.upd hp).rel) (.lst (k3.nb hp) (.inl upd_same) ((Ext.upd hp).rpl rc))
    · split at h3 <;> first | cases h3 | skip
      rename_i hlt
      cases p3 with
      | tup nb rd rs =>
        refine .inr ⟨_, _, rfl, SqT.of rd, ?_, fun pp hp => ?_⟩
        · rintro ⟨z1, z2⟩
          rw [← rs.length] at z1 z2
          unfold cutD at hlt
          rw [sIx_full _ lo' hi' z1 z2] at hlt
          exact Nat.lt_irrefl _ hlt
        · have rc := rs.cut lo' hi'
          exact q _ ow3 _ (k3.ext (.upd hp)) ((r1.trans (r2.trans r3)).trans (Ext.upd hp).rel) (.tup (k3.nb hp) upd_same ((Ext.upd hp).rpl rc))
    · cases h3

/-! ### isinstance, type -/
def tyNames : List String := ["NoneType", "int", "bool", "str", "list", "tuple", "dict"]
def typD : D → String
  | .none => "NoneType"
  | .bool _ => "bool"
  | .int _ => "int"
  | .str _ => "str"
  | .list _ => "list"
  | .tuple _ => "tuple"
  | .dict _ => "dict"
def isiD (d : D) (T : String) : Bool := decide (typD d = T) || (decide (typD d = "bool") && decide (T = "int"))
theorem Rp.tyx {K : PySem.W.Frag} {H : Hp} {B : Addr → Prop} {d : D} {v : V} (r : Rp H B d v) : TyX K H v (.type (typD d)) := by
  cases r with
  | non => exact .base .non
  | bl b => exact .base (.bl b)
  | int i => exact .base (.int i)
  | str x => exact .base (.str x)
  | lst nb rd rs =>
    rcases rd with rd | ⟨o, rd⟩
    · exact .base (.lst rd)
    · exact .base (.frz rd)
  | tup nb rd rs => exact .base (.tup rd)
def isT : List String := ["int", "bool", "str", "list", "tuple"]
theorem kit_names {a T : String} (ha : a ∈ tyNames) (hT : T ∈ isT) : kitB a T = some (decide (a = T) || (decide (a = "bool") && decide (T = "int"))) := by
  unfold isT at hT
  unfold tyNames at ha
  simp only [List.mem_cons, List.not_mem_nil, or_false] at hT ha
  rcases ha with rfl | rfl | rfl | rfl | rfl | rfl | rfl <;> rcases hT with rfl | rfl | rfl | rfl | rfl <;> decide +kernel
theorem typD_in (d : D) : typD d ∈ tyNames := by cases d <;> simp [typD, tyNames]
theorem kit_all {K : PySem.W.Frag} {d : D} {T : String} (hT : T ∈ isT) : PySem.W.kitOne K (.type (typD d)) (.type T) = some (isiD d T) := kit_ty (kit_names (typD_in d) hT)
def eIsi (T : String) (f : FE) : FE := fun en => match f en with
  | some (d, en1) => some (.bool (isiD d T), en1)
  | none => none
theorem ve_isi {T : String} {x : Str} {p1 p2 : Pos} (hT : T ∈ isT) (hg : Gl X "isinstance") (hm : X.mg "isinstance" = none) (hgT : Gl X x) (hmT : X.mg x = none) (hbT : bootBuiltins x = some (.type T)) (he : VE X P e fa)
    (hnT : x ≠ "__name__" := by decide) (hdT : (x == ("__debug__" : Str)) = false := by decide)
    (hst : starEach [e, .Name x p2] X.env = (false, eval e X.env) :: starEach [.Name x p2] X.env := by rfl) (hst2 : starEach [.Name x p2] X.env = (false, eval (.Name x p2) X.env) :: starEach [] X.env := by rfl) (hpl : (backTo pos (starEach [.Name x p2] X.env)).any (·.1) = false := by rfl) :
    VE X P (.Call (.Name "isinstance" p1) [e, .Name x p2] [] pos) (eIsi T fa) :=
  PE.weak (pe_callB call_isi hg hm (by decide +kernel) (pa_cons he (pa_cons (pe_bltn (v := .ty T) hgT hmT hbT rfl hnT hdT) pa_nil hst2) hst) (by decide) (by decide) hst hpl) fun σ H Q h => by
    obtain ⟨Bf, ow, en, k, d, en', hf, q⟩ := h
    unfold eIsi at hf
    split at hf <;> first | cases hf | skip
    rename_i d1 en1 h1
    exact ⟨Bf, ow, en, k, _, _, h1, fun v ow1 H1 k1 r1 p1 => ⟨v, .ty T, _, _, _, rfl, .ty T, p1.tyx, kit_all hT, q _ ow1 H1 k1 r1 (.bl _)⟩⟩
def eIsi2 (T U : String) (f : FE) : FE := fun en => match f en with
  | some (d, en1) => some (.bool (isiD d T || isiD d U), en1)
  | none => none
theorem ve_isi2 {T U : String} {x y : Str} {kk : Nat} {p1 p2 p3 p4 : Pos} (hT : T ∈ isT) (hU : U ∈ isT) (hg : Gl X "isinstance") (hm : X.mg "isinstance" = none) (hgT : Gl X x) (hmT : X.mg x = none) (hbT : bootBuiltins x = some (.type T)) (hgU : Gl X y) (hmU : X.mg y = none) (hbU : bootBuiltins y = some (.type U)) (he : VE X P e fa)
    (hnT : x ≠ "__name__" := by decide) (hdT : (x == ("__debug__" : Str)) = false := by decide) (hnU : y ≠ "__name__" := by decide) (hdU : (y == ("__debug__" : Str)) = false := by decide)
    (hst : starEach [e, .Tuple [.Name x p2, .Name y p3] kk p4] X.env = (false, eval e X.env) :: starEach [.Tuple [.Name x p2, .Name y p3] kk p4] X.env := by rfl) (hst2 : starEach [.Tuple [.Name x p2, .Name y p3] kk p4] X.env = (false, eval (.Tuple [.Name x p2, .Name y p3] kk p4) X.env) :: starEach [] X.env := by rfl) (hpl : (backTo pos (starEach [.Tuple [.Name x p2, .Name y p3] kk p4] X.env)).any (·.1) = false := by rfl)
    (hsa : starEach [.Name x p2, .Name y p3] X.env = (false, eval (.Name x p2) X.env) :: starEach [.Name y p3] X.env := by rfl) (hsb : starEach [.Name y p3] X.env = (false, eval (.Name y p3) X.env) :: starEach [] X.env := by rfl) :
    VE X P (.Call (.Name "isinstance" p1) [e, .Tuple [.Name x p2, .Name y p3] kk p4] [] pos) (eIsi2 T U fa) :=
  PE.weak (pe_callB call_isiT hg hm (by decide +kernel) (pa_cons he (pa_cons (pe_tup (pa_cons (pe_bltn (v := .ty T) hgT hmT hbT rfl hnT hdT) (pa_cons (pe_bltn (v := .ty U) hgU hmU hbU rfl hnU hdU) pa_nil hsb) hsa)) pa_nil hst2) hst) (by decide) (by decide) hst hpl) fun σ H Q h => by
    obtain ⟨Bf, ow, en, k, d, en', hf, q⟩ := h
    unfold eIsi2 at hf
    split at hf <;> first | cases hf | skip
    rename_i d1 en1 h1
    refine ⟨Bf, ow, en, k, _, _, h1, fun v ow1 H1 k1 r1 p1 => ⟨by show 2 ≤ sizeLine; decide, fun t ht => ?_⟩⟩
    have p2 := (Ext.upd (o := .tup [.ty T, .ty U]) ht).rp p1
    refine ⟨v, t, _, _, _, _, rfl, upd_same, .cons (.ty T) (.cons (.ty U) .nil), p2.tyx, ?_, q _ ow1 _ (k1.ext (.upd ht)) (r1.trans (Ext.upd ht).rel) (.bl _)⟩
    refine kitAny_cons (kit_all hT) (fun z => ?_) (fun z => by rw [z]; rfl)
    rw [z, Bool.false_or]
    refine kitAny_cons (kit_all hU) (fun z => ?_) (fun z => z)
    rw [z]
    exact kitAny_nil
end
theorem slot_type_ne : Slot "type" "__ne__" "object.__ne__" :=
  .of (owner := "object") (n := "__ne__") (by rw [typeLookup_type, builtinLookup_eq_fast]; kernel_rfl) (by decide +kernel) (by decide +kernel) (by decide +kernel)
    (by first | exact .inl (by decide +kernel) | exact .inr (by decide +kernel)) (by rw [isSubtype_type]; kernel_rfl)
section
variable {prog : Program} {w : World} {A : Around} {E : Value → Shared → Prop} {s : Shared} {X Y : String}
theorem ty_eq_same (hX : ∀ s' : Shared, s'.TypeIs (.type X) "type") {Q : Option Value → Shared → Prop} (h : Q (some (.bool true)) s) : wpAny (model prog w) A (callSpecialIfBound? (.type X) "__eq__" [.type X]) Q E s :=
  wpAny_callSpecialIfBound?_slot (hX s) TypeEq.slot_type_eq (call_gives TypeEq.slot_type_eq (hX s) F.entry_object_eq (F.args_object_eq_2 _ _) (TypeEq.object_eq_same rfl (by simp)) h)
theorem ty_eq_other (hX : ∀ s' : Shared, s'.TypeIs (.type X) "type") (hne : (Value.type X == Value.type Y) = false) {Q : Option Value → Shared → Prop} (h : Q (some .notImplemented) s) : wpAny (model prog w) A (callSpecialIfBound? (.type X) "__eq__" [.type Y]) Q E s :=
  wpAny_callSpecialIfBound?_slot (hX s) TypeEq.slot_type_eq (call_gives TypeEq.slot_type_eq (hX s) F.entry_object_eq (F.args_object_eq_2 _ _) (TypeEq.object_eq_other rfl hne) h)
theorem ty_ne_same (hX : ∀ s' : Shared, s'.TypeIs (.type X) "type") (hu : A.units + 2 < cLine) {Q : Option Value → Shared → Prop} (h : Q (some (.bool false)) s) : wpAny (model prog w) A (tryCompare (.type X) "__ne__" (.type X)) Q E s := by
  simp only [tryCompare]
  refine wpAny_bind (wpAny_callSpecialIfBound?_slot (hX s) slot_type_ne (wpAny_call (codeAny_call_builtin slot_type_ne.plain F.cmpEntry_ne (slot_type_ne.check _ _ _ _ _ _ _ _ (hX s) (F.cmpArgs_ne _ _) ?_))))
  unfold Builtin.«object.__ne__»
  repeat (first | with_reducible refine wpAny_cRoomFor (by show A.units + 1 < cLine; omega) ?_ | with_reducible refine ty_eq_same hX ?_ | wp_step)
  exact h
theorem ty_ne_other (hX : ∀ s' : Shared, s'.TypeIs (.type X) "type") (hne : (Value.type X == Value.type Y) = false) (hu : A.units + 2 < cLine) {Q : Option Value → Shared → Prop} (h : Q none s) : wpAny (model prog w) A (tryCompare (.type X) "__ne__" (.type Y)) Q E s := by
  simp only [tryCompare]
  refine wpAny_bind (wpAny_callSpecialIfBound?_slot (hX s) slot_type_ne (wpAny_call (codeAny_call_builtin slot_type_ne.plain F.cmpEntry_ne (slot_type_ne.check _ _ _ _ _ _ _ _ (hX s) (F.cmpArgs_ne _ _) ?_))))
  unfold Builtin.«object.__ne__»
  repeat (first | with_reducible refine wpAny_cRoomFor (by show A.units + 1 < cLine; omega) ?_ | with_reducible refine ty_eq_other hX hne ?_ | wp_step)
  exact h
theorem ne_type (hX : ∀ s' : Shared, s'.TypeIs (.type X) "type") (hY : ∀ s' : Shared, s'.TypeIs (.type Y) "type") (hu : A.units + 2 < cLine) {Q : Value → Shared → Prop} (h : Q (.bool (!(Value.type X == Value.type Y))) s) : wpAny (model prog w) A (compareOp .NotEq (.type X) (.type Y)) Q E s := by
  show wpAny _ A (richCompare .NotEq _ _) Q E s
  unfold richCompare
  rw [(hX s).oneThing_none]
  refine wpAny_holding ?_
  refine wpAny_bind (wpAny_cRoomFor_or (.inl rfl) ?_)
  refine wpAny_bind (wpAny_typeOf (hX s) (wpAny_bind (wpAny_typeOf (hY s) ?_)))
  simp only [bne_self_eq_false, Bool.false_eq_true, if_false, pure_bind, Bool.not_false, if_true]
  by_cases e : X = Y
  · subst e
    refine wpAny_bind (m := tryCompare (.type X) _ (.type X)) (ty_ne_same hX hu ?_)
    rw [show (Value.type X == Value.type X) = true by simp] at h
    exact wpAny_pure h
  · have hne : (Value.type X == Value.type Y) = false := by simpa using e
    have hne' : (Value.type Y == Value.type X) = false := by simpa using fun z => e z.symm
    refine wpAny_bind (m := tryCompare (.type X) _ (.type Y)) (ty_ne_other hX hne hu ?_)
    refine wpAny_bind (m := tryCompare (.type Y) _ (.type X)) (ty_ne_other hY hne' hu ?_)
    refine wpAny_bind (wpAny_rule (wpAny_bind (wpAny_of_eq (isSame_plain rfl) (wpAny_pure h))))
theorem eq_type (hX : ∀ s' : Shared, s'.TypeIs (.type X) "type") (hY : ∀ s' : Shared, s'.TypeIs (.type Y) "type") {Q : Value → Shared → Prop} (h : Q (.bool (Value.type X == Value.type Y)) s) : wpAny (model prog w) A (compareOp .Eq (.type X) (.type Y)) Q E s := by
  by_cases e : X = Y
  · subst e
    rw [show (Value.type X == Value.type X) = true by simp] at h
    exact TypeEq.eq_type_same hX h
  · have hne : (Value.type X == Value.type Y) = false := by simpa using e
    rw [hne] at h
    exact TypeEq.eq_type_other hX hY hne h
end
section
variable {X : Cx} {P : Pl} {e : Expr} {fa : FE} {pos : Pos}
theorem meta_of {T : String} (h : T ∈ tyNames) (s' : Shared) : s'.TypeIs (.type T) "type" := by
  unfold tyNames at h
  simp only [List.mem_cons, List.not_mem_nil, or_false] at h
  rcases h with rfl | rfl | rfl | rfl | rfl | rfl | rfl
  · exact TypeEq.meta_NoneType s'
  · exact TypeEq.meta_int s'
  · exact TypeEq.meta_bool s'
  · exact TypeEq.meta_str s'
  · exact TypeEq.meta_list s'
  · exact TypeEq.meta_tuple s'
  · exact TypeEq.meta_dict s'
theorem Rp.tyb {K : PySem.W.Frag} {H : Hp} {B : Addr → Prop} {d : D} {v : V} (r : Rp H B d v) : TyB K H v (typD d) := by
  cases r with
  | non => exact .non
  | bl b => exact .bl b
  | int i => exact .int i
  | str x => exact .str x
  | lst nb rd rs => exact .lst (.inl rd)
  | tup nb rd rs => exact .tup (SqT.of rd)
def rTyNe : R2 := fun x y H Q => ∃ a b, x = .ty a ∧ y = .ty b ∧ a ∈ tyNames ∧ b ∈ tyNames ∧ Q (.bl (!decide (a = b))) H
def rTyEq : R2 := fun x y H Q => ∃ a b, x = .ty a ∧ y = .ty b ∧ a ∈ tyNames ∧ b ∈ tyNames ∧ Q (.bl (decide (a = b))) H
theorem dec_ty (a b : String) : decide (a = b) = (Value.type a == Value.type b) := by
  by_cases h : a = b
  · subst h; simp
  · rw [decide_eq_false h]
    exact (beq_eq_false_iff_ne.mpr fun z => h (by injection z)).symm
theorem op_tyNe (hu : X.A.units + 64 < cLine) : OpR X (compareOp .NotEq) rTyNe := by
  intro pins s σ H x y v u Q I rx ry h
  obtain ⟨a, b, rfl, rfl, ha, hb, q⟩ := h
  cases (show v = Value.type a from rx)
  cases (show u = Value.type b from ry)
  rw [dec_ty] at q
  exact ne_type (meta_of ha) (meta_of hb) (by omega) ⟨.bl _, H, I, rfl, q⟩
theorem op_tyEq : OpR X (compareOp .Eq) rTyEq := by
  intro pins s σ H x y v u Q I rx ry h
  obtain ⟨a, b, rfl, rfl, ha, hb, q⟩ := h
  cases (show v = Value.type a from rx)
  cases (show u = Value.type b from ry)
  rw [dec_ty] at q
  exact eq_type (meta_of ha) (meta_of hb) ⟨.bl _, H, I, rfl, q⟩
def eTyp (neg : Bool) (T : String) (f : FE) : FE := fun en => match f en with
  | some (d, en1) => some (.bool (if neg then !decide (typD d = T) else decide (typD d = T)), en1)
  | none => none
theorem pe_typ {p1 : Pos} (hg : Gl X "type") (hm : X.mg "type" = none) (he : VE X P e fa) (hst : starEach [e] X.env = (false, eval e X.env) :: starEach [] X.env := by rfl) (hpl : (backTo pos (starEach [] X.env)).any (·.1) = false := by rfl) :
    PE X (.Call (.Name "type" p1) [e] [] pos) (tCB (rTyp X.K) (tCons (tv P fa) tNil)) := pe_callTy call_type1 hg hm (by decide +kernel) (pa_cons he pa_nil hst) (by decide) (by decide) hst hpl
theorem vt_typNe {T : String} {x : Str} {p1 p2 cpos : Pos} (hT : T ∈ tyNames) (hu : X.A.units + 64 < cLine) (hg : Gl X "type") (hm : X.mg "type" = none) (hgT : Gl X x) (hmT : X.mg x = none) (hbT : bootBuiltins x = some (.type T)) (he : VE X P e fa)
    (hnT : x ≠ "__name__" := by decide) (hdT : (x == ("__debug__" : Str)) = false := by decide) (hst : starEach [e] X.env = (false, eval e X.env) :: starEach [] X.env := by rfl) (hpl : (backTo cpos (starEach [] X.env)).any (·.1) = false := by rfl) :
    VT X P (.Compare (.Call (.Name "type" p1) [e] [] cpos) [.NotEq] [.Name x p2] pos) (fBool (eTyp true T fa)) :=
  PT.weak (pt_cmpR (op_tyNe hu) (pe_typ hg hm he hst hpl) (pe_bltn (v := .ty T) hgT hmT hbT rfl hnT hdT) (nomark _)) fun σ H Q h => by
    have h := tvT_bool σ H Q h
    obtain ⟨Bf, ow, en, k, d, en', hf, q⟩ := h
    unfold eTyp at hf
    split at hf <;> first | cases hf | skip
    rename_i d1 en1 h1
    exact ⟨Bf, ow, en, k, _, _, h1, fun v ow1 H1 k1 r1 p1 => ⟨v, _, rfl, p1.tyb, _, _, rfl, rfl, typD_in _, hT, q _ ow1 H1 k1 r1 (.bl _)⟩⟩
end
end VL

namespace VL
open PySem PySem.Spec
open PyProof.Rows L2

/-! ### sorted -/
def leI (a b : Int) : Bool := decide (a ≤ b)
def sortI (ns : List Int) : List Int := ns.mergeSort leI
theorem sortI_perm (ns : List Int) : (sortI ns).Perm ns := List.mergeSort_perm ns leI
theorem sortI_pw (ns : List Int) : (sortI ns).Pairwise (· ≤ ·) := by
  have h := List.pairwise_mergeSort (le := leI) (fun a b c h1 h2 => by simp [leI] at *; omega) (fun a b => by simp [leI]; omega) ns
  exact h.imp fun h => of_decide_eq_true h
theorem sortI_eq {ns ms : List Int} (hp : ms.Perm ns) (hs : ms.Pairwise (· ≤ ·)) : ms = sortI ns :=
  (hp.trans (sortI_perm ns).symm).eq_of_pairwise (fun a b _ _ h1 h2 => Int.le_antisymm h1 h2) hs (sortI_pw ns)
def leP (a b : Int × Int) : Bool := decide (a.1 < b.1) || (decide (a.1 = b.1) && decide (a.2 ≤ b.2))
theorem leP_iff {a b : Int × Int} : leP a b = true ↔ a.1 < b.1 ∨ (a.1 = b.1 ∧ a.2 ≤ b.2) := by simp [leP]
def sortP (ns : List (Int × Int)) : List (Int × Int) := ns.mergeSort leP
theorem sortP_perm (ns : List (Int × Int)) : (sortP ns).Perm ns := List.mergeSort_perm ns leP
theorem sortP_pw (ns : List (Int × Int)) : (sortP ns).Pairwise (fun a b => leP a b = true) :=
  List.pairwise_mergeSort (le := leP) (fun a b c h1 h2 => by rw [leP_iff] at *; omega) (fun a b => by
    rw [Bool.or_eq_true, leP_iff, leP_iff]
    omega) ns
theorem sortP_eq {ns ms : List (Int × Int)} (hp : ms.Perm ns) (hs : ms.Pairwise (fun a b => leP a b = true)) : ms = sortP ns :=
  (hp.trans (sortP_perm ns).symm).eq_of_pairwise (fun a b _ _ h1 h2 => by
    rw [leP_iff] at h1 h2
    exact Prod.ext (by omega) (by omega)) hs (sortP_pw ns)
def pairD (p : Int × Int) : D := .tuple [.int p.1, .int p.2]
def pairsOf : List D → Option (List (Int × Int))
  | [] => some []
  | .tuple [.int i, .int j] :: r => (pairsOf r).map ((i, j) :: ·)
  | _ => none
theorem pairsOf_eq : ∀ {ds : List D} {ns : List (Int × Int)}, pairsOf ds = some ns → ds = ns.map pairD
  | [], ns, h => by cases h; rfl
  | d :: r, ns, h => by
    unfold pairsOf at h
    split at h
    · rename_i h0; cases h0
    · rename_i i j r' h0
      cases h0
      cases e : pairsOf r with
      | none => rw [e] at h; cases h
      | some ms =>
        rw [e] at h
        cases h
        rw [pairsOf_eq e]
        rfl
    · cases h
theorem pairsOf_map : ∀ ns : List (Int × Int), pairsOf (ns.map pairD) = some ns
  | [] => rfl
  | n :: ns => by
    rw [List.map_cons]
    unfold pairD
    rw [pairsOf]
    have := pairsOf_map ns
    unfold pairD at this
    rw [this]
    rfl
def gSorted : List D → Option (List D)
  | [.list ds] => match intsOf ds with
    | some ns => some ((sortI ns).map .int)
    | none => match pairsOf ds with
      | some ps => some ((sortP ps).map pairD)
      | none => none
  | _ => none
def keyH (H : Hp) : V → Int × Int
  | .ref t => match H t with
    | some (.tup [.int i, .int j]) => (i, j)
    | _ => (0, 0)
  | _ => (0, 0)
theorem keyH_of {H : Hp} {B : Addr → Prop} {p : Int × Int} {v : V} (r : Rp H B (pairD p) v) : (∃ t, v = .ref t ∧ H t = some (.tup [.int p.1, .int p.2])) ∧ keyH H v = p := by
  unfold pairD at r
  cases r with
  | tup nb e rs =>
    cases rs with
    | cons p1 rs =>
      cases rs with
      | cons p2 rs =>
        cases rs
        cases p1
        cases p2
        refine ⟨⟨_, rfl, e⟩, ?_⟩
        simp [keyH, e]
theorem RpL.pairs {H : Hp} {B : Addr → Prop} : ∀ {ps : List (Int × Int)} {vs : List V}, RpL H B (ps.map pairD) vs → vs.map (keyH H) = ps ∧ ∀ v ∈ vs, (∃ t, v = .ref t ∧ H t = some (.tup [.int (keyH H v).1, .int (keyH H v).2])) ∧ Rp H B (pairD (keyH H v)) v
  | [], _, .nil => ⟨rfl, fun _ h => by simp at h⟩
  | p :: ps, _, .cons (v := v) r rs => by
    obtain ⟨h1, h2⟩ := RpL.pairs rs
    obtain ⟨h3, h4⟩ := keyH_of r
    refine ⟨by rw [List.map_cons, h4, h1], fun w hw => ?_⟩
    rcases List.mem_cons.mp hw with rfl | hw
    · rw [h4]
      exact ⟨h3, r⟩
    · exact h2 w hw
theorem RpL.ofMap {H : Hp} {B : Addr → Prop} {f : V → D} : ∀ {vs : List V}, (∀ v ∈ vs, Rp H B (f v) v) → RpL H B (vs.map f) vs
  | [], _ => .nil
  | v :: vs, h => .cons (h v (by simp)) (RpL.ofMap fun w hw => h w (List.mem_cons_of_mem _ hw))
def rSortedAll (K : PySem.W.Frag) : List V → Hp → VK → Prop := fun vs H Q => rSortedI K vs H Q ∨ rSortedPO K vs H Q
theorem cr_sortedAll {X : Cx} : CallR X (.builtin "sorted") (rSortedAll X.K) := by
  intro pins s σ H xs us Q I r h
  rcases h with h | h
  · exact cr_sortedI pins s σ H xs us Q I r h
  · exact cr_sortedPO pins s σ H xs us Q I r h
theorem ca_sorted {K : PySem.W.Frag} : CaL (rSortedAll K) gSorted := by
  intro H B ds es vs Q e r q
  unfold gSorted at e
  split at e <;> first | cases e | skip
  rename_i xs
  cases r with
  | cons p r =>
    cases r
    cases p with
    | lst n1 d1 s1 =>
      split at e
      · rename_i ns h
        cases e
        have := intsOf_eq h
        subst this
        have := s1.ints
        subst this
        refine .inl ⟨_, ns, rfl, .inl d1, fun ns' p hp hs hn => ?_⟩
        have := sortI_eq hp hs
        subst this
        exact q p _ hn (.ofInts _)
      · split at e <;> first | cases e | skip
        rename_i ps h
        have := pairsOf_eq h
        subst this
        obtain ⟨h1, h2⟩ := s1.pairs
        refine .inr ⟨_, _, keyH H, rfl, .inl d1, fun x hx => (h2 x hx).1, fun ys p hs hst hn => q p ys hn ?_⟩
        have hpm : (ys.map (keyH H)).Perm ps := by
          rw [← h1]
          exact hst.perm.map _
        have hpw : (ys.map (keyH H)).Pairwise (fun a b => leP a b = true) := by
          rw [List.pairwise_map]
          refine List.Pairwise.imp ?_ hs
          intro a b hab
          rw [leP_iff]
          have := SrtO.lexB_no.mp hab
          omega
        rw [← sortP_eq hpm hpw, List.map_map]
        exact RpL.ofMap fun v hv => (h2 v (hst.perm.mem_iff.mp hv)).2
end VL

namespace VL
open PySem PySem.Spec
open PyProof.Rows L2

section
variable {X : Cx} {P : Pl} {a b e : Expr} {es : List Expr} {fa fb : FE} {ga : FA} {pos apos cpos : Pos}
/-! ### values made since the start -/
def tvN (P : Pl) (f : FE) : TE := fun σ H Q => ∃ Bf ow en, Ok P Bf ow en σ H ∧ ∃ d en', f en = some (d, en') ∧
  ∀ v ow' H', Ok P Bf ow' en' σ H' → Rel P H ow H' ow' → Rx H' (blkN Bf ow') d v → Q v H'
def VN (X : Cx) (P : Pl) (e : Expr) (f : FE) : Prop := PE X e (tvN P f)
def nNew (f : FL) : FE := fun en => match f en with
  | some (ds, en1) => if ds.all flatD = true then some (.list ds, en1) else none
  | none => none
theorem vn_new {f : FL} (h : VF X P e f) : VN X P e (nNew f) := PE.weak h fun σ H Q h => by
  obtain ⟨Bf, ow, en, k, d, en', hf, q⟩ := h
  unfold nNew at hf
  split at hf <;> first | cases hf | skip
  rename_i ds en1 h1
  split at hf <;> first | cases hf | skip
  rename_i hfl
  exact ⟨Bf, ow, en, k, _, _, h1, fun p xs ow1 H1 k1 r1 b1 b2 b3 b4 hp rs => q _ ow1 H1 k1.unins r1 (.lst (fun z => z.elim (new_nb b1 b3) b2) hp (rs.flatX hfl))⟩
def nVar (P : List Nat) (i : Nat) : FE := fun en => match en[i]? with
  | some (.vn d) => some (d, en)
  | some (.ow ds) => if i ∉ P ∧ ds.all flatD = true then some (.list ds, en.set i (.vn (.list ds))) else none
  | _ => none
theorem Ok.freezeN {Bf : Bk} {ow : Nat → Option Addr} {en : En} {σ : L2.St} {H : Hp} (k : Ok P Bf ow en σ H) {i : Nat} {ds : List D} (hi : i ∉ P) (e : en[i]? = some (.ow ds)) (hfl : ds.all flatD = true) :
    ∃ v, σ[i]? = some (some v) ∧ Ok P Bf (dropOw ow i) (en.set i (.vn (.list ds))) σ H ∧ Rx H (blkN Bf (dropOw ow i)) (.list ds) v := by
  obtain ⟨a, xs, h1, h2, h3, h4⟩ := k.hown i ds e
  have p : Rx H (blkN Bf (dropOw ow i)) (.list ds) (.ref a) := by
    refine .lst (fun z => ?_) h3 (h4.flatX hfl)
    rcases z with (z | ⟨j, z⟩) | z
    · exact (k.hloc i a h1 hi).1 z
    · have := k.hinj j i a (dropOw_sub _ _ z) h1
      subst this
      unfold dropOw at z
      rw [if_pos rfl] at z
      cases z
    · exact (k.hloc i a h1 hi).2 z
  refine ⟨_, h2, ?_, p⟩
  have k2 := k.setN hi p
  have es : σ.set i (some (.ref a)) = σ := by
    apply List.ext_getElem?
    intro j
    by_cases hj : j = i
    · subst hj
      rw [List.getElem?_set_self (List.getElem?_eq_some_iff.mp h2).1, h2]
    · rw [List.getElem?_set_ne (Ne.symm hj)]
  rw [es] at k2
  exact k2
theorem vn_var {i : Nat} {x : Str} (hN : X.N[i]? = some x) (hv : Vis X.env.scope x := by first | exact .inl rfl | exact .inr (.inl rfl) | exact .inr (.inr rfl)) (hd : (x == ("__debug__" : Str)) = false := by decide) (hcd : (x == ("__classdict__" : Str)) = false := by decide) : VN X P (.Name x pos) (nVar P.ps i) := by
  refine PE.weak (pe_var hN hv hd hcd) fun σ H Q h => ?_
  obtain ⟨Bf, ow, en, k, d, en', hf, q⟩ := h
  unfold nVar at hf
  split at hf
  · rename_i d' he
    cases hf
    obtain ⟨v, h1, h2⟩ := k.hvn i d he
    exact ⟨v, h1, q v ow H k .refl h2⟩
  · rename_i ds he
    split at hf <;> first | cases hf | skip
    rename_i hc
    obtain ⟨v, h1, k2, p⟩ := k.freezeN hc.1 he hc.2
    exact ⟨v, h1, q v _ H k2 (dropOw_rel hc.1) p⟩
  · cases hf
def tvNA (P : Pl) (f : FA) : TA := fun σ H Q => ∃ Bf ow en, Ok P Bf ow en σ H ∧ ∃ ds en', f en = some (ds, en') ∧
  ∀ vs ow' H', Ok P Bf ow' en' σ H' → Rel P H ow H' ow' → RxL H' (blkN Bf ow') ds vs → Q vs H'
def VNA (X : Cx) (P : Pl) (es : List Expr) (f : FA) : Prop := PA X es (tvNA P f)
theorem vna_nil : VNA X P [] aNil := by
  refine PA.weak pa_nil fun σ H Q h => ?_
  obtain ⟨Bf, ow, en, k, d, en', hf, q⟩ := h
  cases hf
  exact q [] ow H k .refl .nil
theorem vna_cons (ha : VN X P e fa) (hr : VNA X P es ga) (hs : starEach (e :: es) X.env = (false, eval e X.env) :: starEach es X.env := by rfl) : VNA X P (e :: es) (aCons fa ga) := by
  refine PA.weak (pa_cons ha hr hs) fun σ H Q h => ?_
  obtain ⟨Bf, ow, en, k, d, en', hf, q⟩ := h
  unfold aCons at hf
  split at hf <;> first | cases hf | skip
  rename_i d1 en1 h1
  split at hf <;> first | cases hf | skip
  rename_i ds en2 h2
  exact ⟨Bf, ow, en, k, _, _, h1, fun v1 ow1 H1 k1 r1 p1 => ⟨Bf, ow1, en1, k1, _, _, h2, fun vs ow2 H2 k2 r2 p2 => q _ ow2 H2 k2 (r1.trans r2) (.cons (p1.move r2.mvN) p2)⟩⟩
theorem vn_lst (h : VNA X P es ga) : VN X P (.List es pos) (eLst ga) := by
  refine PE.weak (pe_lst h) fun σ H Q h => ?_
  obtain ⟨Bf, ow, en, k, d, en', hf, q⟩ := h
  unfold eLst at hf
  split at hf <;> first | cases hf | skip
  rename_i ds en1 h1
  split at hf <;> first | cases hf | skip
  rename_i hz
  exact ⟨Bf, ow, en, k, _, _, h1, fun vs ow1 H1 k1 r1 p1 => ⟨by rw [← p1.length]; exact hz, fun p hp => q _ ow1 _ (k1.ext (.upd hp)) (r1.trans (Ext.upd hp).rel)
    (.lst (fun z => z.elim (k1.nb hp) fun z => k1.hod p z hp) upd_same (p1.move fun b o e t n => ⟨Ext.upd hp b o e, n⟩))⟩⟩
def gCat : D → D → Option D
  | .list xs, .list ys => if xs.length + ys.length ≤ sizeLine then some (.list (xs ++ ys)) else none
  | _, _ => none
theorem vn_cat (ha : VN X P a fa) (hb : VN X P b fb) : VN X P (.BinOp a .Add b pos) (eOp gCat fa fb) :=
  PE.weak (pe_op op_catR ha hb) fun σ H Q h => by
    obtain ⟨Bf, ow, en, k, d, en', hf, q⟩ := h
    unfold eOp at hf
    split at hf <;> first | cases hf | skip
    rename_i x en1 h1
    split at hf <;> first | cases hf | skip
    rename_i y en2 h2
    split at hf <;> first | cases hf | skip
    rename_i z h3
    refine ⟨Bf, ow, en, k, x, en1, h1, fun v1 ow1 H1 k1 r1 p1 => ⟨Bf, ow1, en1, k1, y, _, h2, fun v2 ow2 H2 k2 r2 p2 => ?_⟩⟩
    unfold gCat at h3
    split at h3 <;> first | cases h3 | skip
    split at h3 <;> first | cases h3 | skip
    rename_i hz
    have p3 := p1.move r2.mvN
    cases p3 with
    | lst n1 e1 s1 =>
      cases p2 with
      | lst n2 e2 s2 =>
        exact ⟨_, _, _, _, rfl, rfl, .inl e1, .inl e2, by rw [← s1.length, ← s2.length]; exact hz, fun p hp => q _ ow2 _ (k2.ext (.upd hp)) ((r1.trans r2).trans (Ext.upd hp).rel)
          (.lst (fun z => z.elim (k2.nb hp) fun z => k2.hod p z hp) upd_same ((s1.append s2).move fun b o e t n => ⟨Ext.upd hp b o e, n⟩))⟩
def sSetN (i : Nat) (f : FE) : FS := fun en => match f en with
  | some (d, en1) => some (.nx (en1.set i (.vn d)))
  | none => none
theorem vs_setN {i : Nat} {x : Str} {pos' : Pos} (hN : X.N.Nodup) (hi : X.N[i]? = some x) (hx : Loc X.env.scope x := by first | exact .inl rfl | exact .inr rfl) (hP : i ∉ P) (he : VN X P e fa) (hs : swapsWith e (some (.Name x pos')) pos.line X.env = pure false := by rfl)
    (hf : X.fn x = true ∨ X.env.scope.names.lookup x = some .local := by first | exact .inl rfl | exact .inr rfl | assumption) : VS X P (.Assign [.Name x pos'] e pos) (sSetN i fa) :=
  PS.weak (ps_set hN hi hx he hs hf) fun Dn σ H h => by
    obtain ⟨Bf, ow, en, k, o, hf, q⟩ := h
    unfold sSetN at hf
    split at hf <;> first | cases hf | skip
    rename_i d en1 h1
    refine ⟨Bf, ow, en, k, _, _, h1, fun v ow1 H1 k1 r1 p1 => ?_⟩
    have p2 := p1.move (H' := H1) (B' := blkN Bf (dropOw ow1 i)) fun b o e t n => ⟨e, fun z => n (z.elim (fun z => .inl (dropOw_blk z)) .inr)⟩
    exact q _ _ _ (k1.setN hP p2) (r1.trans (dropOw_rel hP)).s

/-! ### lists that are given up: for r in <lists made since>: r.append(<a constant>) -/
mutual
/-- no list anywhere -/
def lfD : D → Bool
  | .list _ => false
  | .tuple xs => lfL xs
  | .dict _ => false
  | _ => true
def lfL : List D → Bool
  | [] => true
  | d :: r => lfD d && lfL r
end
mutual
theorem Rp.lf {H H' : Hp} {B : Addr → Prop} (k : ∀ b xs, H b = some (.tup xs) → ¬ B b → H' b = some (.tup xs)) : ∀ {d : D} {v : V}, Rp H B d v → lfD d = true → Rp H' B d v
  | _, _, .non, _ => .non
  | _, _, .bl b, _ => .bl b
  | _, _, .int i, _ => .int i
  | _, _, .str x, _ => .str x
  | _, _, .lst _ _ _, f => by simp [lfD] at f
  | _, _, .tup nb e rs, f => .tup nb (k _ _ e nb) (RpL.lf k rs (by simpa [lfD] using f))
theorem RpL.lf {H H' : Hp} {B : Addr → Prop} (k : ∀ b xs, H b = some (.tup xs) → ¬ B b → H' b = some (.tup xs)) : ∀ {ds : List D} {vs : List V}, RpL H B ds vs → lfL ds = true → RpL H' B ds vs
  | _, _, .nil, _ => .nil
  | _, _, .cons r rs, f => by
    rw [lfL, Bool.and_eq_true] at f
    exact .cons (Rp.lf k r f.1) (RpL.lf k rs f.2)
end
/-- what is left of a slot -/
def clean : Sl → Sl
  | .va d => if lfD d then .va d else .un
  | .ow ds => .ow ds
  | .dc t kvs => .dc t kvs
  | _ => .un
def ownLf : Sl → Bool
  | .ow ds => lfL ds
  | .dc _ kvs => kvs.all fun p => lfD p.2
  | _ => true
theorem clean_va {s : Sl} {d : D} (e : clean s = .va d) : s = .va d ∧ lfD d = true := by
  cases s with
  | va d' =>
    simp only [clean] at e
    split at e
    · cases e
      exact ⟨rfl, by assumption⟩
    · cases e
  | _ => simp [clean] at e
theorem clean_own {s s' : Sl} (e : clean s = s') (f : isOwn s' = true) : s = s' := by
  cases s with
  | va d' =>
    simp only [clean] at e
    split at e <;> (subst e; cases f)
  | ow ds' => exact e
  | dc t ds' => exact e
  | _ => subst e; cases f
theorem clean_vn {s : Sl} {d : D} (e : clean s = .vn d) : False := by
  cases s with
  | va d' =>
    simp only [clean] at e
    split at e <;> cases e
  | _ => simp [clean] at e
theorem pairedM {α β : Type} {F G : α → β → Prop} : ∀ {l₁ : List α} {l₂ : List β}, Paired F l₁ l₂ → (∀ a b, a ∈ l₁ → F a b → G a b) → Paired G l₁ l₂
  | _, _, .nil, _ => .nil
  | _, _, .cons r t, f => .cons (f _ _ (by simp) r) (pairedM t fun a b h => f a b (List.mem_cons_of_mem _ h))
theorem OwnAt.lf {H H' : Hp} {B : Addr → Prop} {a : Addr} {s : Sl} (d : OwnAt H B a s) (ha : ∀ o, H a = some o → H' a = some o) (k : ∀ b xs, H b = some (.tup xs) → ¬ B b → H' b = some (.tup xs)) (hl : ownLf s = true) : OwnAt H' B a s := by
  cases s with
  | ow ds =>
    obtain ⟨xs, h1, h2⟩ := d
    exact ⟨xs, ha _ h1, h2.lf k hl⟩
  | dc t kvs =>
    have hl' : ∀ p ∈ kvs, lfD p.2 = true := List.all_eq_true.mp hl
    cases t with
    | false =>
      obtain ⟨ks, h1, h2⟩ := d
      exact ⟨ks, ha _ h1, pairedM h2 fun p q hp z => ⟨z.1, z.2.lf k (hl' p hp)⟩⟩
    | true =>
      obtain ⟨ks, h1, h2⟩ := d
      exact ⟨ks, ha _ h1, pairedM h2 fun p q hp z => ⟨z.1, z.2.lf k (hl' p hp)⟩⟩
  | un => exact d.elim
  | va _ => exact d.elim
  | vn _ => exact d.elim
/-- lists that are no one's may have changed -/
theorem Ok.spoil {Bf : Bk} {ow : Nat → Option Addr} {en : En} {σ : L2.St} {H H' : Hp} (k : Ok P Bf ow en σ H) (kt : ∀ b zs, H b = some (.tup zs) → H' b = some (.tup zs)) (ko : ∀ i a o, ow i = some a → H a = some o → H' a = some o)
    (sm : ∀ b, H b ≠ none → H' b ≠ none) (ht : LamX.Tabs P.tb H') (hl : en.all ownLf = true) : Ok P Bf ow (en.map clean) σ H' := by
  have kt' : ∀ b zs, H b = some (.tup zs) → ¬ blk Bf ow b → H' b = some (.tup zs) := fun b zs e _ => kt b zs e
  refine ⟨by simp [k.hlen], fun i d e => ?_, fun i d e => ?_, fun i s' e f => ?_, fun i a e => ?_, k.hinj, fun b z => sm b (k.hbf b z), fun b z => sm b (k.hod b z), k.hloc, ht⟩
  · rw [List.getElem?_map] at e
    cases e0 : en[i]? with
    | none => rw [e0] at e; cases e
    | some s =>
      rw [e0] at e
      obtain ⟨rfl, hf⟩ := clean_va (Option.some.inj e)
      obtain ⟨v, h1, h2⟩ := k.hva i d e0
      exact ⟨v, h1, h2.lf kt' hf⟩
  · rw [List.getElem?_map] at e
    cases e0 : en[i]? with
    | none => rw [e0] at e; cases e
    | some s =>
      rw [e0] at e
      exact (clean_vn (Option.some.inj e)).elim
  · rw [List.getElem?_map] at e
    cases e0 : en[i]? with
    | none => rw [e0] at e; cases e
    | some s =>
      rw [e0] at e
      have := clean_own (Option.some.inj e) f
      subst this
      obtain ⟨a, h1, h2, h3⟩ := k.hob i s e0 f
      exact ⟨a, h1, h2, h3.lf (fun o e => ko i a o h1 e) kt' ((List.all_eq_true.mp hl) _ (List.mem_of_getElem? e0))⟩
  · obtain ⟨s, e0, f⟩ := k.hdom i a e
    refine ⟨s, ?_, f⟩
    rw [List.getElem?_map, e0]
    cases s with
    | ow ds => rfl
    | dc t ds => rfl
    | un => cases f
    | va _ => cases f
    | vn _ => cases f
theorem clean_idem (s : Sl) : clean (clean s) = clean s := by
  cases s with
  | va d =>
    by_cases h : lfD d = true
    · simp [clean, h]
    · simp [clean, h]
  | _ => rfl
theorem map_clean_idem (en : En) : (en.map clean).map clean = en.map clean := by
  rw [List.map_map]
  congr 1
  funext s
  exact clean_idem s
theorem ownLf_clean (en : En) (h : en.all ownLf = true) : (en.map clean).all ownLf = true := by
  rw [List.all_map]
  rw [List.all_eq_true] at h ⊢
  intro s hs
  have := h s hs
  cases s with
  | va d =>
    simp only [Function.comp, clean]
    split <;> rfl
  | ow ds => exact this
  | dc t ds => exact this
  | _ => rfl
def roomL (n : Nat) : D → Bool
  | .list l => decide (l.length + n < sizeLine)
  | _ => false
def sSpoil (i : Nat) (f : FE) : FS := fun en => match f en with
  | some (.list ds, en1) => if ds.all (roomL ds.length) = true ∧ en1.all ownLf = true ∧ isOwnO en1[i]? = false ∧ i < en1.length then some (.nx ((en1.map clean).set i .un)) else none
  | _ => none
mutual
theorem Rx.uniq {H : Hp} {B B' : Addr → Prop} : ∀ {d d' : D} {v : V}, Rx H B d v → Rx H B' d' v → d = d'
  | _, _, _, .non, .non => rfl
  | _, _, _, .bl b, .bl _ => rfl
  | _, _, _, .int i, .int _ => rfl
  | _, _, _, .str x, .str _ => rfl
  | _, _, _, .lst _ e rs, .lst _ e' rs' => by
    rw [e] at e'
    cases e'
    rw [RxL.uniq rs rs']
  | _, _, _, .tup _ e rs, .tup _ e' rs' => by
    rw [e] at e'
    cases e'
    rw [RxL.uniq rs rs']
  | _, _, _, .lst _ e _, .tup _ e' _ => by rw [e] at e'; cases e'
  | _, _, _, .tup _ e _, .lst _ e' _ => by rw [e] at e'; cases e'
theorem RxL.uniq {H : Hp} {B B' : Addr → Prop} : ∀ {ds ds' : List D} {vs : List V}, RxL H B ds vs → RxL H B' ds' vs → ds = ds'
  | _, _, _, .nil, .nil => rfl
  | _, _, _, .cons r rs, .cons r' rs' => by rw [Rx.uniq r r', RxL.uniq rs rs']
end
end

/-! ### the statements of a def's own body: what was there at its start stands -/
structure RelT (P : Pl) (Bf : Bk) (H : Hp) (ow : Nat → Option Addr) (H' : Hp) (ow' : Nat → Option Addr) : Prop where
  hkeep : ∀ b o, Bf.od b → H b = some o → NT o → (∀ i, ow i ≠ some b) → H' b = some o ∧ (∀ i, ow' i ≠ some b)
  hsome : ∀ b, H b ≠ none → H' b ≠ none
  hpin : ∀ i, i ∈ P → ow' i = ow i
section
variable {P : Pl} {Bf : Bk} {ow ow' ow1 : Nat → Option Addr} {H H' H1 : Hp}
theorem RelS.t (a : RelS P H ow H' ow') : RelT P Bf H ow H' ow' := ⟨fun b o _ e t n => a.hkeep b o e t n, a.hsome, a.hpin⟩
theorem RelT.trans (a : RelT P Bf H ow H1 ow1) (b : RelT P Bf H1 ow1 H' ow') : RelT P Bf H ow H' ow' :=
  ⟨fun x o d e t n => b.hkeep x o d (a.hkeep x o d e t n).1 t (a.hkeep x o d e t n).2, fun x e => b.hsome x (a.hsome x e), fun i hi => (b.hpin i hi).trans (a.hpin i hi)⟩
end
def post0 (P : Pl) (Bf : Bk) (Dn : Ends) (H : Hp) (ow : Nat → Option Addr) : Out → Prop
  | .nx en' => ∀ ow' σ' H', Ok P Bf ow' en' σ' H' → RelT P Bf H ow H' ow' → Dn.nx σ' H'
  | .rt d en' => ∀ ow' σ' H' v, Ok P Bf ow' en' σ' H' → RelT P Bf H ow H' ow' → Rp H' (blk Bf ow') d v → Dn.rt v H'
  | .rf ds en' => ∀ ow' σ' H' p xs, Ok P (insB Bf p) ow' en' σ' H' → RelT P Bf H ow H' ow' → ¬ Bf.bl p → ¬ Bf.od p → (∀ i, ow' i ≠ some p) → H' p = some (.lst xs) → RpL H' (blk (insB Bf p) ow') ds xs → Dn.rt (.ref p) H'
  | _ => False
def tvS0 (P : Pl) (f : FS) : TS := fun Dn σ H => ∃ Bf ow en, Ok P Bf ow en σ H ∧ ∃ o, f en = some o ∧ post0 P Bf Dn H ow o
def VS0 (X : Cx) (P : Pl) (st : Stmt) (f : FS) : Prop := PS X st (tvS0 P f)
def VB0 (X : Cx) (P : Pl) (st : List Stmt) (f : FS) : Prop := PSs X st (tvS0 P f)
theorem post0.trans {P : Pl} {Bf : Bk} {Dn : Ends} {H H1 : Hp} {ow ow1 : Nat → Option Addr} {o : Out} (h : post0 P Bf Dn H ow o) (r : RelT P Bf H ow H1 ow1) : post0 P Bf Dn H1 ow1 o := by
  cases o with
  | nx en => exact fun ow' σ' H' k r' => h ow' σ' H' k (r.trans r')
  | rt d en => exact fun ow' σ' H' v k r' p => h ow' σ' H' v k (r.trans r') p
  | rf d en => exact fun ow' σ' H' p xs k r' => h ow' σ' H' p xs k (r.trans r')
  | bk en => exact h
  | ct en => exact h
theorem post0.post {P : Pl} {Bf : Bk} {Dn : Ends} {H : Hp} {ow : Nat → Option Addr} {o : Out} (h : post0 P Bf Dn H ow o) : post P Bf Dn H ow o := by
  cases o with
  | nx en => exact fun ow' σ' H' k r' => h ow' σ' H' k r'.t
  | rt d en => exact fun ow' σ' H' v k r' p => h ow' σ' H' v k r'.t p
  | rf d en => exact fun ow' σ' H' p xs k r' => h ow' σ' H' p xs k r'.t
  | bk en => exact h.elim
  | ct en => exact h.elim
section
variable {X : Cx} {P : Pl} {st : Stmt} {rest sts : List Stmt} {f g : FS} {e : Expr} {fa : FE} {pos apos cpos : Pos}
theorem vs0_of (h : VS X P st f) : VS0 X P st f := PS.weak h fun Dn σ H h => by
  obtain ⟨Bf, ow, en, k, o, hf, q⟩ := h
  exact ⟨Bf, ow, en, k, o, hf, q.post⟩
theorem vb0_of (h : VB X P sts f) : VB0 X P sts f := PSs.weak h fun Dn σ H h => by
  obtain ⟨Bf, ow, en, k, o, hf, q⟩ := h
  exact ⟨Bf, ow, en, k, o, hf, q.post⟩
theorem vb0_one (h : VS0 X P st f) : VB0 X P [st] f := pss_one h
theorem vb0_cons (h1 : VS0 X P st f) (h2 : VB0 X P rest g) : VB0 X P (st :: rest) (sSeq f g) := PSs.weak (pss_cons h1 h2) fun Dn σ H h => by
  obtain ⟨Bf, ow, en, k, o, hf, q⟩ := h
  unfold sSeq at hf
  split at hf
  · rename_i en1 h1
    exact ⟨Bf, ow, en, k, _, h1, fun ow1 σ1 H1 k1 r1 => ⟨Bf, ow1, en1, k1, o, hf, q.trans r1⟩⟩
  · cases hf; exact q.elim
  · cases hf; exact q.elim
  · rename_i d en1 h1
    cases hf
    exact ⟨Bf, ow, en, k, _, h1, q⟩
  · rename_i d en1 h1
    cases hf
    exact ⟨Bf, ow, en, k, _, h1, q⟩
  · cases hf
theorem roomL_of {n : Nat} {d : D} (h : roomL n d = true) : ∃ l, d = .list l ∧ l.length + n < sizeLine := by
  cases d with
  | list l => exact ⟨l, rfl, of_decide_eq_true h⟩
  | _ => cases h
theorem Ok.unset {Bf : Bk} {ow : Nat → Option Addr} {en : En} {σ σ' : L2.St} {H : Hp} {i : Nat} (k : Ok P Bf ow en σ H) (h : isOwnO en[i]? = false) (hl : σ'.length = σ.length) (hs : ∀ l, l ≠ i → σ'[l]? = σ[l]?) : Ok P Bf ow (en.set i .un) σ' H := by
  have key : ∀ (j : Nat) (s : Sl), (en.set i .un)[j]? = some s → s ≠ .un → j ≠ i ∧ en[j]? = some s := fun j s e hn => by
    by_cases hj : j = i
    · subst hj
      by_cases hjl : j < en.length
      · rw [List.getElem?_set_self hjl] at e
        cases e
        exact absurd rfl hn
      · rw [List.getElem?_eq_none (by simpa using hjl)] at e
        cases e
    · rw [List.getElem?_set_ne (Ne.symm hj)] at e
      exact ⟨hj, e⟩
  refine ⟨by rw [hl, k.hlen, List.length_set], fun j d e => ?_, fun j d e => ?_, fun j s e f => ?_, fun j a e => ?_, k.hinj, k.hbf, k.hod, k.hloc, k.htab⟩
  · obtain ⟨hj, e'⟩ := key j _ e (fun z => nomatch z)
    obtain ⟨v, h1, h2⟩ := k.hva j d e'
    exact ⟨v, (hs j hj).trans h1, h2⟩
  · obtain ⟨hj, e'⟩ := key j _ e (fun z => nomatch z)
    obtain ⟨v, h1, h2⟩ := k.hvn j d e'
    exact ⟨v, (hs j hj).trans h1, h2⟩
  · obtain ⟨hj, e'⟩ := key j _ e (fun z => by subst z; cases f)
    obtain ⟨a, h1, h2, h3⟩ := k.hob j s e' f
    exact ⟨a, h1, (hs j hj).trans h2, h3⟩
  · obtain ⟨s, e', f⟩ := k.hdom j a e
    have hj : j ≠ i := fun z => by
      subst z
      rw [e'] at h
      have h' : isOwn s = false := h
      rw [f] at h'
      cases h'
    exact ⟨s, by rw [List.getElem?_set_ne (Ne.symm hj)]; exact e', f⟩
theorem vs0_spoil {i : Nat} {x : Str} {c : Int} {jj : Nat} {p1 p2 p3 : Pos} {iter : Expr} (hp : PassesOwn (model X.prog X.w) X.A X.env X.xe) (hc : X.calm = true) (hN : X.N.Nodup) (hi : X.N[i]? = some x) (hx : Loc X.env.scope x := by first | exact .inl rfl | exact .inr rfl) (hP : i ∉ P) (he : VN X P iter fa)
    (hv : Vis X.env.scope x := by first | exact .inl rfl | exact .inr (.inl rfl) | exact .inr (.inr rfl))
    (hd : (x == ("__debug__" : Str)) = false := by decide) (hcd : (x == ("__classdict__" : Str)) = false := by decide) (hf : X.fn x = true ∨ X.env.scope.names.lookup x = some .local := by first | exact .inl rfl | exact .inr rfl | assumption)
    (hbase : attributeBase (.Name x p2) "append" X.env (eval (.Name x p2) X.env) = eval (.Name x p2) X.env := by rfl)
    (hfew : ((backTo cpos (starEach [.Constant (.int c) jj p3] X.env)).all (fun x => !x.1) && (backToKw cpos (keywordEach [] X.env)).all (fun x => x.1.isSome)
      && decide ([(Expr.Constant (.int c) jj p3)].length + ([] : List Keyword).length + (if ([] : List Keyword).isEmpty then 0 else 1) < 30)) = true := by rfl)
    (hline : (apos.endLine == cpos.line) = true := by rfl) (hst : starEach [.Constant (.int c) jj p3] X.env = (false, eval (.Constant (.int c) jj p3) X.env) :: starEach [] X.env := by rfl) (hplain : (backTo cpos (starEach [] X.env)).any (·.1) = false := by rfl)
    {epos : Pos} (hs : swapsWith (.Call (.Attribute (.Name x p2) "append" apos) [.Constant (.int c) jj p3] [] cpos) none epos.line X.env = pure false := by rfl)
    (hfold : ∀ y, foldedSetIterable iter X.env y = pure y := by intro _; rfl) :
    VS0 X P (.For (.Name x p1) iter [.Expr (.Call (.Attribute (.Name x p2) "append" apos) [.Constant (.int c) jj p3] [] cpos) epos] [] pos) (sSpoil i fa) :=
  PS.weak (ps_for hp hc (pi_list he) (pg_name hN hi hx hf) (pss_one (ps_expr (pe_bm PySem.F.plainAttrs_list PySem.F.slot_list_append PySem.F.type_list_append mt_append (pe_var hi hv hd hcd) (pa_cons pe_int pa_nil hst) hbase hfew hline hst hplain) hs)) hfold) fun Dn σ H h => by
    obtain ⟨Bf, ow, en, k, o, hfe, q⟩ := h
    unfold sSpoil at hfe
    split at hfe <;> first | cases hfe | skip
    rename_i ds en1 h1
    split at hfe <;> first | cases hfe | skip
    rename_i hcnd
    obtain ⟨hroom, hown, hnow, hil⟩ := hcnd
    refine ⟨Bf, ow, en, k, _, en1, h1, fun v ow1 H1 k1 r1 p1 => ?_⟩
    cases p1 with
    | lst na ea rs =>
      rename_i a xs
      refine ⟨a, rfl, ⟨xs, SqL.of ea⟩, ?_⟩
      -- the items
      have item : ∀ (j : Nat) (z : V), xs[j]? = some z → ∃ (r : Addr) (l : List D), z = .ref r ∧ l.length + ds.length < sizeLine ∧ ¬ blkN Bf ow1 r ∧ r ≠ a ∧ ∃ zs, H1 r = some (.lst zs) ∧ zs.length = l.length := fun j z hz => by
        have hj : j < ds.length := by rw [rs.length]; exact (List.getElem?_eq_some_iff.mp hz).1
        obtain ⟨v', g1, g2⟩ := rs.get (List.getElem?_eq_getElem hj)
        rw [hz] at g1
        cases g1
        obtain ⟨l, g3, g4⟩ := roomL_of ((List.all_eq_true.mp hroom) _ (List.getElem_mem hj))
        have hm : PyData.list l ∈ ds := by rw [← g3]; exact List.getElem_mem hj
        rw [g3] at g2
        cases g2 with
        | lst nr er rr =>
          refine ⟨_, l, rfl, g4, nr, fun z => ?_, _, er, rr.length.symm⟩
          subst z
          have e := Rx.uniq (Rx.lst nr er rr) (Rx.lst na ea rs)
          have e' : l = ds := by injection e
          subst e'
          have := List.sizeOf_lt_of_mem hm
          simp at this
          omega
      let Pv : Nat → L2.St → Hp → Prop := fun j σ' H' => (∀ b o, H1 b = some o → (∀ (r : Addr) (z : Nat), xs[z]? = some (V.ref r) → b ≠ r) → H' b = some o) ∧ (∀ (r : Addr) (z : Nat), xs[z]? = some (V.ref r) → ∃ zs zs0, H' r = some (.lst zs) ∧ H1 r = some (.lst zs0) ∧ zs.length ≤ zs0.length + j) ∧
        (∀ b, H1 b ≠ none → H' b ≠ none) ∧ σ'.length = σ.length ∧ ∀ l, l ≠ i → σ'[l]? = σ[l]?
      have hla : ∀ j σ' H', Pv j σ' H' → H' a = some (.lst xs) := fun j σ' H' w => w.1 a _ ea fun r z hz e => by
        obtain ⟨r', l, e1, _, _, e2, _⟩ := item z _ hz
        cases e1
        exact e2 e.symm
      refine for_list (K := X.K) (a := a) (xs := xs) Pv ⟨fun b o e _ => e, fun r z hz => ?_, fun b e => e, rfl, fun _ _ => rfl⟩ (fun j σ' H' _ w => SqL.of (hla j σ' H' w)) (fun j z σ' H' hz w => ?_) (fun σ' H' w => ?_)
      · obtain ⟨r', l, e1, _, _, _, zs, e2, _⟩ := item z _ hz
        cases e1
        exact ⟨zs, zs, e2, e2, Nat.le_refl _⟩
      · obtain ⟨r, l, rfl, hl, nr, _, zs0, er, hzl⟩ := item j z hz
        obtain ⟨zs, zs0', e1, e2, e3⟩ := w.2.1 r j hz
        rw [er] at e2
        cases e2
        have hj : j < ds.length := by rw [rs.length]; exact (List.getElem?_eq_some_iff.mp hz).1
        have hlen : zs.length < sizeLine := by omega
        have hiσ : i < σ'.length := by
          rw [w.2.2.2.1, k1.hlen]
          exact hil
        refine ⟨V.ref r, List.getElem?_set_self hiσ, .inl ⟨rfl, _, SqL.of e1⟩, r, zs, .int c, rfl, rfl, e1, hlen, ?_⟩
        refine ⟨fun b o e n => ?_, fun r' z' hz' => ?_, fun b e => ?_, by rw [List.length_set]; exact w.2.2.2.1, fun m hm => by rw [List.getElem?_set_ne (Ne.symm hm)]; exact w.2.2.2.2 m hm⟩
        · rw [upd_ne (n r j hz)]
          exact w.1 b o e n
        · by_cases hr : r' = r
          · subst hr
            obtain ⟨_, zs1, _, f2, _⟩ := w.2.1 r' z' hz'
            rw [er] at f2
            cases f2
            exact ⟨_, zs0, upd_same, er, by rw [List.length_append, List.length_singleton]; omega⟩
          · obtain ⟨zs2, zs3, f1, f2, f3⟩ := w.2.1 r' z' hz'
            exact ⟨zs2, zs3, by rw [upd_ne hr]; exact f1, f2, by omega⟩
        · by_cases hb : b = r
          · rw [hb, upd_same]
            exact fun z => nomatch z
          · rw [upd_ne hb]
            exact w.2.2.1 b e
      · -- the end
        obtain ⟨w1, w2, w3, w4, w5⟩ := w
        have k2 : Ok P Bf ow1 (en1.map clean) σ H' := k1.spoil (fun b zs e => w1 b _ e fun r z hz h => by
            obtain ⟨r', l, e1, _, _, _, zs, e2, _⟩ := item z _ hz
            cases e1
            rw [h, e2] at e
            cases e) (fun i' a' o' e1 e2 => w1 a' _ e2 fun r z hz h => by
            obtain ⟨r', l, f1, _, f2, _⟩ := item z _ hz
            cases f1
            rw [h] at e1
            exact f2 (.inl (.inr ⟨i', e1⟩))) w3 (fun q hq => by
            obtain ⟨ps, t1, t2, t3⟩ := k1.htab q hq
            refine ⟨ps, w1 _ _ t1 fun r z hz h => ?_, t2, fun pos cv hc => ?_⟩
            · obtain ⟨r', l, f1, _, _, _, zs, f2, _⟩ := item z _ hz
              cases f1
              rw [h, f2] at t1
              cases t1
            · obtain ⟨c, f1, f2⟩ := t3 pos cv hc
              refine ⟨c, f1, w1 _ _ f2 fun r z hz h => ?_⟩
              obtain ⟨r', l, g1, _, _, _, zs, g2, _⟩ := item z _ hz
              cases g1
              rw [h, g2] at f2
              cases f2) hown
        have hnow2 : isOwnO (en1.map clean)[i]? = false := by
          rw [List.getElem?_map]
          cases e0 : en1[i]? with
          | none => rfl
          | some s =>
            rw [e0] at hnow
            cases s with
            | ow ds' => cases hnow
            | dc t ds' => cases hnow
            | va d =>
              by_cases hlf : lfD d = true
              · simp [clean, hlf, isOwnO, isOwn]
              · simp [clean, hlf, isOwnO, isOwn]
            | un => rfl
            | vn d => rfl
        refine q ow1 σ' H' (k2.unset hnow2 w4 w5) ?_
        have nod : ∀ b, Bf.od b → ∀ (r : Addr) (z : Nat), xs[z]? = some (V.ref r) → b ≠ r := fun b hb r z hz h => by
          obtain ⟨r', l, f1, _, f2, _⟩ := item z _ hz
          cases f1
          subst h
          exact f2 (.inr hb)
        exact ⟨fun b o hb e t n => ⟨w1 b o (r1.hkeep b o e t n).1 (nod b hb), (r1.hkeep b o e t n).2⟩, fun b e => w3 b (r1.hsome b e), r1.hpin⟩
end
end VL

namespace VL
open PySem PySem.Spec
open PyProof.Rows L2
section
variable {P : Pl} {Bf : Bk} {ow ow' : Nat → Option Addr} {as en' : En} {vs : List V} {H H' : Hp}
theorem aft_of0 {σ' : L2.St} (hw : ∀ i a, ow i = some a → i ∈ P) (k : Ok P (runB Bf H) ow' en' σ' H') (r : RelT P (runB Bf H) H ow H' ow') : Aft P Bf ow en' H H' :=
  ⟨fun i hi a e => by
    have e' : ow' i = some a := (r.hpin i hi).trans e
    obtain ⟨s, h, f, g2, g3⟩ := k.hat e'
    exact ⟨s, h, f, g3.move (fun o e _ => e) fun b o e t n => ⟨e, fun z => n (run_sub hw r.hpin z)⟩⟩, fun b o e t n => (r.hkeep b o (show H b ≠ none by rw [e]; exact fun z => nomatch z) e t n).1, r.hsome, k.htab⟩
theorem aft_ofI0 {σ' : L2.St} {p : Addr} (hw : ∀ i a, ow i = some a → i ∈ P) (k : Ok P (insB (runB Bf H) p) ow' en' σ' H') (r : RelT P (runB Bf H) H ow H' ow') : Aft P (insB Bf p) ow en' H H' :=
  ⟨fun i hi a e => by
    have e' : ow' i = some a := (r.hpin i hi).trans e
    obtain ⟨s, h, f, g2, g3⟩ := k.hat e'
    exact ⟨s, h, f, g3.move (fun o e _ => e) fun b o e t n => ⟨e, fun z => n (run_subI hw r.hpin z)⟩⟩, fun b o e t n => (r.hkeep b o (show H b ≠ none by rw [e]; exact fun z => nomatch z) e t n).1, r.hsome, k.htab⟩
theorem body_V0 {N : List Str} {n : Nat} {f : FS} {Q : VK} {E : XK} (h : spV P n (fnV N.length f) vs H Q E) : tvS0 P f { nx := fun _ H' => Q .non H', rt := Q } (L2.start N vs) H := by
  obtain ⟨Bf, ow, as, hl, k, hw, hn, d, as', hF, q⟩ := h
  unfold fnV at hF
  split at hF
  · rename_i d' en h1
    cases hF
    refine ⟨runB Bf H, ow, _, ok_start k hw hn, _, h1, fun ow' σ' H' v k' r p => ?_⟩
    exact q v H' (aft_of0 hw k' r) (p.move fun b o e t n => ⟨e, fun z => n (run_sub hw r.hpin z)⟩)
  · rename_i en h1
    cases hF
    refine ⟨runB Bf H, ow, _, ok_start k hw hn, _, h1, fun ow' σ' H' k' r => ?_⟩
    exact q .non H' (aft_of0 hw k' r) .non
  · rename_i ds en h1
    cases hF
    refine ⟨runB Bf H, ow, _, ok_start k hw hn, _, h1, fun ow' σ' H' p xs k' r b1 b2 b3 hp rs => ?_⟩
    exact q (.ref p) H' (aft_of0 hw k'.unins r) ((Rp.lst (new_nb b1 b3) (.inl hp) rs.unins).move fun b o e t n => ⟨e, fun z => n (run_sub hw r.hpin z)⟩)
  · cases hF
end
section
variable {Pg : Program} {w : World} {K : PySem.W.Frag} {mg : Str → Option Value} {base : Heap} {P : Pl}
theorem def_V0 {x : String} {st : Stmt} {N ps : List Str} {k : Nat} {f : FS} (F : Nmd K mg x st ps) (S : FnScope N ps (defScope st))
    (hb : ∀ (fa : Addr) (cdv : Value) (A : Around) (outer : List Env) (s : Shared) (H : Hp) (E : XK), Room k (A.deeper (envOfC x (defScope st) s.heap.objs.size fa cdv)) → VB0 (cxOf CX0 Pg w K mg base N x (defScope st) fa cdv A outer s H E).nox P (defBody st) f) :
    Def Pg w K mg base x (k + 1) ps (spV P ps.length (fnV N.length f)) := by
  obtain ⟨fa, fd, h1, h2, h3⟩ := F.ex
  exact ⟨fa, fd, h1, h2.kp, h3, h2.ok S (len_V rfl) fun cdv A outer s H vs Q E hr h => ⟨_, hb fa cdv A outer s H E hr, body_V0 h⟩, fun_lk h2⟩
/-- a promise by another function of the data, that says no more -/
theorem Def.ofV {x : Str} {k n : Nat} {ps : List Str} {F F' : FF} (D : Def Pg w K mg base x k ps (spV P n F)) (h : ∀ as r, as.length = n → F' as = some r → F as = some r) : Def Pg w K mg base x k ps (spV P n F') := by
  obtain ⟨f, fd, h1, h2, h3, h4, h5⟩ := D.ex
  refine ⟨f, fd, h1, h2, h3, h4.imp fun vs H Q E q => ?_, h5⟩
  obtain ⟨Bf, ow, as, hl, k, hw, hn, d, as', hF, q⟩ := q
  exact ⟨Bf, ow, as, hl, k, hw, hn, d, as', h as _ hl hF, q⟩
theorem Def.ofL {x : Str} {k n : Nat} {ps : List Str} {F F' : FFL} (D : Def Pg w K mg base x k ps (spL P n F)) (h : ∀ as r, as.length = n → F' as = some r → F as = some r) : Def Pg w K mg base x k ps (spL P n F') := by
  obtain ⟨f, fd, h1, h2, h3, h4, h5⟩ := D.ex
  refine ⟨f, fd, h1, h2, h3, h4.imp fun vs H Q E q => ?_, h5⟩
  obtain ⟨Bf, ow, as, hl, k, hw, hn, d, as', hF, q⟩ := q
  exact ⟨Bf, ow, as, hl, k, hw, hn, d, as', h as _ hl hF, q⟩
theorem Def.mono {x : Str} {j k : Nat} {ps : List Str} {sp : Sp} (D : Def Pg w K mg base x j ps sp) (h : j ≤ k) : Def Pg w K mg base x k ps sp := by
  obtain ⟨f, fd, h1, h2, h3, h4, h5⟩ := D.ex
  exact ⟨f, fd, h1, h2, h3, h4.mono h, h5⟩
end

/-! ### calls by keywords alone -/
def permL {α : Type} (π : List Nat) (xs : List α) : List α := π.filterMap fun i => xs[i]?
theorem permL_cons {α : Type} (i : Nat) (π : List Nat) (xs : List α) : permL (i :: π) xs = match xs[i]? with
    | some x => x :: permL π xs
    | none => permL π xs := by
  unfold permL
  rw [List.filterMap_cons]
  cases xs[i]? <;> rfl
theorem permL_vals {xs : List V} {us : List Value} (r : Vals xs us) : ∀ π : List Nat, Vals (permL π xs) (permL π us)
  | [] => .nil
  | i :: π => by
    rw [permL_cons, permL_cons]
    cases e : xs[i]? with
    | none =>
      rw [r.none_of e]
      exact permL_vals r π
    | some x =>
      obtain ⟨u, h1, h2⟩ := r.get e
      rw [h1]
      exact .cons h2 (permL_vals r π)
theorem MdsOk.perm {Bf : Bk} {ow : Nat → Option Addr} {en : En} {H : Hp} {ms : List Md} {vs : List V} (r : MdsOk Bf ow en H ms vs) : ∀ π : List Nat, MdsOk Bf ow en H (permL π ms) (permL π vs)
  | [] => trivial
  | i :: π => by
    rw [permL_cons, permL_cons]
    cases e : ms[i]? with
    | none =>
      have : vs[i]? = none := by
        rw [List.getElem?_eq_none_iff] at e ⊢
        rw [← r.length]
        exact e
      rw [this]
      exact MdsOk.perm r π
    | some m =>
      obtain ⟨v, h1, h2⟩ := r.get e
      rw [h1]
      exact ⟨h2, MdsOk.perm r π⟩
structure Kwd (K : PySem.W.Frag) (mg : Str → Option Value) (x : Str) (ps ks : List Str) (π : List Nat) : Prop where
  ex : ∃ (f : Addr) (fd : FuncData), mg x = some (.ref f) ∧ (∃ oc od osl, K.lookup f = some ⟨oc, od, .func fd, osl⟩) ∧ KBn K fd ps 0 ks (fun _ ws => permL π ws) (fun _ zs => permL π zs)
theorem kwd_of {K : PySem.W.Frag} {mg : Str → Option Value} {x : String} {st : Stmt} {ps ks : List Str} {π : List Nat} (F : Nmd K mg x st ps)
    (h : ∀ (kV doc pm : Value) (an : Option Addr) (cdv ct : Value) (ws : List Value), ws.length = ks.length → bindArgs (PySem.W.fnOf x x (defArgs st) (defBody st) (defScope st) .none kV doc pm an cdv ct) ⟨[], ks.zip ws⟩ = pure (ps.zip (permL π ws))) : Kwd K mg x ps ks π := by
  obtain ⟨f, fd, h1, h2, h3⟩ := F.ex
  obtain ⟨oc, od, kV, doc, pm, an, cdv, ct, osl, rfl, lk, hcd⟩ := h2.ex
  refine ⟨f, _, h1, ⟨oc, od, osl, lk⟩, ⟨fun s us ws _ l1 l2 => ?_, fun _ r2 => permL_vals r2 π⟩⟩
  have : us = [] := List.length_eq_zero_iff.mp l1
  subst this
  exact .of_eq (h kV doc pm an cdv ct ws l2)
section
variable {X : Cx} {P : Pl} {kws : List Keyword} {gm : FM} {pos kpos : Pos} {e : Expr} {fa : FE} {nm : Option Str}
def VK (X : Cx) (P : Pl) (kws : List Keyword) (f : FM) : Prop := PK X kws (tvM P f)
theorem PK.weak {kws : List Keyword} {t t' : TA} (h : PK X kws t) (w : ∀ σ H Q, t' σ H Q → t σ H Q) : PK X kws t' :=
  ⟨fun pos pins s σ H Q I q => h.run pos pins s σ H Q I (w σ H Q q)⟩
theorem vk_nil : VL.VK X P [] mNil := by
  refine PK.weak pk_nil fun σ H Q h => ?_
  obtain ⟨Bf, ow, en, k, d, en', hf, q⟩ := h
  cases hf
  exact q [] ow H k .refl trivial
theorem vk_cons (ha : VE X P e fa) (hr : VL.VK X P kws gm) : VL.VK X P (⟨nm, e, kpos⟩ :: kws) (mCons fa gm) := by
  refine PK.weak (pk_cons ha hr) fun σ H Q h => ?_
  obtain ⟨Bf, ow, en, k, d, en', hf, q⟩ := h
  unfold mCons at hf
  split at hf <;> first | cases hf | skip
  rename_i d1 en1 h1
  split at hf <;> first | cases hf | skip
  rename_i ds en2 h2
  exact ⟨Bf, ow, en, k, _, _, h1, fun v1 ow1 H1 k1 r1 p1 => ⟨Bf, ow1, en1, k1, _, _, h2, fun vs ow2 H2 k2 r2 p2 => q _ ow2 H2 k2 (r1.trans r2) ⟨r2.rp p1, p2⟩⟩⟩
def mPerm (m : Nat) (π : List Nat) (g : FM) : FM := fun en => match g en with
  | some (ms, en1) => if ms.length = m then some (permL π ms, en1) else none
  | none => none
theorem pe_callKw {x : Str} {k : Nat} {ps ks : List Str} {π : List Nat} {sp : Sp} {p : Pos} {tk : TA} (D : Def X.prog X.w X.K X.mg X.base x k ps sp) (W : Kwd X.K X.mg x ps ks π) (hr : Room k X.A) (hg : Gl X x) (hk : PK X kws tk)
    (hall : (backToKw pos (keywordEach kws X.env)).all (·.1.isSome) = true := by rfl) (hks : (backToKw pos (keywordEach kws X.env)).filterMap (·.1) = ks := by rfl) (hdb : (x == ("__debug__" : Str)) = false := by decide)
    (hpl : ((backTo pos (starEach [] X.env)).any (·.1) || (backToKw pos (keywordEach kws X.env)).any (·.1.isNone)) = false := by rfl) :
    PE X (.Call (.Name x p) [] kws pos) (fun σ H Q => tk σ H fun zs H2 => zs.length = ks.length ∧ sp (permL π zs) H2 Q (fun _ _ _ => False)) := by
  obtain ⟨f, fd, h1, h2, h3, h4, oc, od, osl, h5⟩ := D.ex
  obtain ⟨f', fd', g1, ⟨oc', od', osl', g2⟩, g3⟩ := W.ex
  rw [h1] at g1
  cases g1
  rw [h5] at g2
  cases g2
  refine ⟨fun pins s σ H Q I h => ?_⟩
  refine wpAny_Call_Name_kw (ld_glob I hg h1 ?_ hdb)
  refine PySem.W.callWith_KW0 (h₀ := X.base) I.ok.mod.kin h2 hall ?_ hpl
  refine thn (hk.run pos pins s σ H _ I h) fun ws s2 ⟨zs, H2, I2, rz, l2, q2⟩ => ⟨I2.kIn, ?_⟩
  rw [hks]
  exact run_fnN (us := []) (vs := []) h4 hr g3 pass0 I2 .nil rz rfl l2 q2
theorem ve_callKw {x : Str} {k n m : Nat} {ps ks : List Str} {π : List Nat} {ps' : List Nat} {F : FF} {p : Pos} (D : Def X.prog X.w X.K X.mg X.base x k ps (spV ⟨ps', P.tb⟩ n F)) (W : Kwd X.K X.mg x ps ks π) (hr : Room k X.A) (hg : Gl X x) (ha : VL.VK X P kws gm)
    (hm : ks.length = m := by rfl) (hall : (backToKw pos (keywordEach kws X.env)).all (·.1.isSome) = true := by rfl) (hks : (backToKw pos (keywordEach kws X.env)).filterMap (·.1) = ks := by rfl) (hdb : (x == ("__debug__" : Str)) = false := by decide)
    (hpl : ((backTo pos (starEach [] X.env)).any (·.1) || (backToKw pos (keywordEach kws X.env)).any (·.1.isNone)) = false := by rfl)
    : VE X P (.Call (.Name x p) [] kws pos) (eCallF ps' n F (mPerm m π gm)) :=
  PE.weak (pe_callKw D W hr hg ha hall hks hdb hpl) fun σ H Q h => by
    subst hm
    have h2 := tv_callF (P := P) (P' := ⟨ps', P.tb⟩) rfl (E := fun _ _ _ => False) σ H Q h
    obtain ⟨Bf, ow, en, k, ms, en1, hm, q⟩ := h2
    unfold mPerm at hm
    split at hm <;> first | cases hm | skip
    rename_i ms0 en2 h0
    split at hm <;> first | cases hm | skip
    rename_i hl
    refine ⟨Bf, ow, en, k, ms0, _, h0, fun vs ow1 H1 k1 r1 m1 => ⟨by rw [← m1.length]; exact hl, ?_⟩⟩
    have h9 : spV ⟨ps', P.tb⟩ n F (permL π vs ++ []) H1 Q (fun _ _ _ => False) := q (permL π vs) ow1 H1 k1 r1 (m1.perm π)
    rw [List.append_nil] at h9
    exact h9
theorem vf_callKw {x : Str} {k n m : Nat} {ps ks : List Str} {π : List Nat} {ps' : List Nat} {F : FFL} {p : Pos} (D : Def X.prog X.w X.K X.mg X.base x k ps (spL ⟨ps', P.tb⟩ n F)) (W : Kwd X.K X.mg x ps ks π) (hr : Room k X.A) (hg : Gl X x) (ha : VL.VK X P kws gm)
    (hm : ks.length = m := by rfl) (hall : (backToKw pos (keywordEach kws X.env)).all (·.1.isSome) = true := by rfl) (hks : (backToKw pos (keywordEach kws X.env)).filterMap (·.1) = ks := by rfl) (hdb : (x == ("__debug__" : Str)) = false := by decide)
    (hpl : ((backTo pos (starEach [] X.env)).any (·.1) || (backToKw pos (keywordEach kws X.env)).any (·.1.isNone)) = false := by rfl)
    : VF X P (.Call (.Name x p) [] kws pos) (lCallF ps' n F (mPerm m π gm)) :=
  PE.weak (pe_callKw D W hr hg ha hall hks hdb hpl) fun σ H Q h => by
    subst hm
    have h2 := tvF_callF (P := P) (P' := ⟨ps', P.tb⟩) rfl (E := fun _ _ _ => False) σ H Q h
    obtain ⟨Bf, ow, en, k, ms, en1, hm, q⟩ := h2
    unfold mPerm at hm
    split at hm <;> first | cases hm | skip
    rename_i ms0 en2 h0
    split at hm <;> first | cases hm | skip
    rename_i hl
    refine ⟨Bf, ow, en, k, ms0, _, h0, fun vs ow1 H1 k1 r1 m1 => ⟨by rw [← m1.length]; exact hl, ?_⟩⟩
    have h9 : spL ⟨ps', P.tb⟩ n F (permL π vs ++ []) H1 Q (fun _ _ _ => False) := q (permL π vs) ow1 H1 k1 r1 (m1.perm π)
    rw [List.append_nil] at h9
    exact h9
end
end VL

namespace VL
open PySem PySem.Spec
open PyProof.Rows L2
/-! ### values that may reach lists of one's own, for a call that gives back a flat value -/
abbrev NoB : Addr → Prop := fun _ => False
theorem Rp.no {H : Hp} {B : Addr → Prop} {d : D} {v : V} (r : Rp H B d v) : Rp H NoB d v := r.move fun b o e _ _ => ⟨e, fun z => z⟩
theorem RpL.no {H : Hp} {B : Addr → Prop} {d : List D} {v : List V} (r : RpL H B d v) : RpL H NoB d v := r.move fun b o e _ _ => ⟨e, fun z => z⟩
abbrev FU := En → Option D
def tvU (P : Pl) (f : FU) : TE := fun σ H Q => ∃ Bf ow en, Ok P Bf ow en σ H ∧ ∃ d, f en = some d ∧ ∀ v H', Ok P Bf ow en σ H' → Ext H H' → Rp H' NoB d v → Q v H'
def VU (X : Cx) (P : Pl) (e : Expr) (f : FU) : Prop := PE X e (tvU P f)
abbrev FUL := En → Option (List D)
def tvUL (P : Pl) (f : FUL) : TA := fun σ H Q => ∃ Bf ow en, Ok P Bf ow en σ H ∧ ∃ ds, f en = some ds ∧ ∀ vs H', Ok P Bf ow en σ H' → Ext H H' → RpL H' NoB ds vs → Q vs H'
def VUL (X : Cx) (P : Pl) (es : List Expr) (f : FUL) : Prop := PA X es (tvUL P f)
def tvAU (P : Pl) (f : FA) : TA := fun σ H Q => ∃ Bf ow en, Ok P Bf ow en σ H ∧ ∃ ds en', f en = some (ds, en') ∧ ∀ vs ow' H', Ok P Bf ow' en' σ H' → Rel P H ow H' ow' → RpL H' NoB ds vs → Q vs H'
def VAU (X : Cx) (P : Pl) (es : List Expr) (f : FA) : Prop := PA X es (tvAU P f)
section
variable {X : Cx} {P : Pl} {a b e : Expr} {es : List Expr} {fa : FE} {fu : FU} {gu : FUL} {ga : FA} {pos : Pos}
def uVar (i : Nat) : FU := fun en => match en[i]? with
  | some (.va d) => some d
  | some (.vn d) => some d
  | some (.ow ds) => some (.list ds)
  | _ => none
theorem vu_var {i : Nat} {x : Str} (hN : X.N[i]? = some x) (hv : Vis X.env.scope x := by first | exact .inl rfl | exact .inr (.inl rfl) | exact .inr (.inr rfl)) (hd : (x == ("__debug__" : Str)) = false := by decide) (hcd : (x == ("__classdict__" : Str)) = false := by decide) : VU X P (.Name x pos) (uVar i) := by
  refine PE.weak (pe_var hN hv hd hcd) fun σ H Q h => ?_
  obtain ⟨Bf, ow, en, k, d, hf, q⟩ := h
  unfold uVar at hf
  split at hf
  · rename_i d' he
    cases hf
    obtain ⟨v, h1, h2⟩ := k.hva i d he
    exact ⟨v, h1, q v H k .refl h2.no⟩
  · rename_i d' he
    cases hf
    obtain ⟨v, h1, h2⟩ := k.hvn i d he
    exact ⟨v, h1, q v H k .refl h2.rp.no⟩
  · rename_i ds he
    cases hf
    obtain ⟨a, xs, h1, h2, h3, h4⟩ := k.hown i ds he
    exact ⟨_, h2, q _ H k .refl (.lst (fun z => z) (.inl h3) h4.no)⟩
  · cases hf
theorem vul_nil : VUL X P [] (fun _ => some []) := by
  refine PA.weak pa_nil fun σ H Q h => ?_
  obtain ⟨Bf, ow, en, k, d, hf, q⟩ := h
  cases hf
  exact q [] H k .refl .nil
def ulCons (f : FU) (g : FUL) : FUL := fun en => match f en with
  | some d => match g en with
    | some ds => some (d :: ds)
    | none => none
  | none => none
theorem vul_cons (ha : VU X P e fu) (hr : VUL X P es gu) (hs : starEach (e :: es) X.env = (false, eval e X.env) :: starEach es X.env := by rfl) : VUL X P (e :: es) (ulCons fu gu) := by
  refine PA.weak (pa_cons ha hr hs) fun σ H Q h => ?_
  obtain ⟨Bf, ow, en, k, d, hf, q⟩ := h
  unfold ulCons at hf
  split at hf <;> first | cases hf | skip
  rename_i d1 h1
  split at hf <;> first | cases hf | skip
  rename_i ds h2
  exact ⟨Bf, ow, en, k, _, h1, fun v1 H1 k1 x1 p1 => ⟨Bf, ow, en, k1, _, h2, fun vs H2 k2 x2 p2 => q _ H2 k2 (x1.trans x2) (.cons (x2.rp p1) p2)⟩⟩
def uLst (g : FUL) : FU := fun en => match g en with
  | some ds => if ds.length ≤ sizeLine then some (.list ds) else none
  | none => none
def uTup (g : FUL) : FU := fun en => match g en with
  | some ds => if ds.length ≤ sizeLine then some (.tuple ds) else none
  | none => none
theorem vu_lst (h : VUL X P es gu) : VU X P (.List es pos) (uLst gu) := by
  refine PE.weak (pe_lst h) fun σ H Q h => ?_
  obtain ⟨Bf, ow, en, k, d, hf, q⟩ := h
  unfold uLst at hf
  split at hf <;> first | cases hf | skip
  rename_i ds h1
  split at hf <;> first | cases hf | skip
  rename_i hz
  exact ⟨Bf, ow, en, k, _, h1, fun vs H1 k1 x1 p1 => ⟨by rw [← p1.length]; exact hz, fun p hp => q _ _ (k1.ext (.upd hp)) (x1.trans (.upd hp)) (.lst (fun z => z) (.inl upd_same) ((Ext.upd hp).rpl p1))⟩⟩
theorem vu_tup {x1} (h : VUL X P es gu) : VU X P (.Tuple es x1 pos) (uTup gu) := by
  refine PE.weak (pe_tup h) fun σ H Q h => ?_
  obtain ⟨Bf, ow, en, k, d, hf, q⟩ := h
  unfold uTup at hf
  split at hf <;> first | cases hf | skip
  rename_i ds h1
  split at hf <;> first | cases hf | skip
  rename_i hz
  exact ⟨Bf, ow, en, k, _, h1, fun vs H1 k1 x1 p1 => ⟨by rw [← p1.length]; exact hz, fun p hp => q _ _ (k1.ext (.upd hp)) (x1.trans (.upd hp)) (.tup (fun z => z) upd_same ((Ext.upd hp).rpl p1))⟩⟩
def auEnd (g : FUL) : FA := fun en => match g en with
  | some ds => some (ds, en)
  | none => none
theorem vau_end (h : VUL X P es gu) : VAU X P es (auEnd gu) := PA.weak h fun σ H Q h => by
  obtain ⟨Bf, ow, en, k, d, en', hf, q⟩ := h
  unfold auEnd at hf
  split at hf <;> first | cases hf | skip
  rename_i ds h1
  exact ⟨Bf, ow, _, k, _, h1, fun vs H1 k1 x1 p1 => q vs ow H1 k1 x1.rel p1⟩
theorem vau_cons (ha : VE X P e fa) (hr : VAU X P es ga) (hs : starEach (e :: es) X.env = (false, eval e X.env) :: starEach es X.env := by rfl) : VAU X P (e :: es) (aCons fa ga) := by
  refine PA.weak (pa_cons ha hr hs) fun σ H Q h => ?_
  obtain ⟨Bf, ow, en, k, d, en', hf, q⟩ := h
  unfold aCons at hf
  split at hf <;> first | cases hf | skip
  rename_i d1 en1 h1
  split at hf <;> first | cases hf | skip
  rename_i ds en2 h2
  exact ⟨Bf, ow, en, k, _, _, h1, fun v1 ow1 H1 k1 r1 p1 => ⟨Bf, ow1, en1, k1, _, _, h2, fun vs ow2 H2 k2 r2 p2 => q _ ow2 H2 k2 (r1.trans r2) (.cons (r2.rp p1).no p2)⟩⟩
def eCallU (n : Nat) (F : FF) (g : FA) : FE := fun en => match g en with
  | some (ds, en1) => if ds.length = n then (match F (ds.map Sl.va) with
    | some (d, _) => if flatD d = true then some (d, en1) else none
    | none => none) else none
  | none => none
theorem ve_callU {x : Str} {k n : Nat} {ps : List Str} {F : FF} {p : Pos} (D : Def X.prog X.w X.K X.mg X.base x k ps (spV ⟨[], P.tb⟩ n F)) (hr : Room k X.A) (hg : Gl X x) (ha : VAU X P (e :: es) ga)
    (hdb : (x == ("__debug__" : Str)) = false := by decide) (he : starEach (e :: es) X.env = (false, eval e X.env) :: starEach es X.env := by rfl) (hpl : (backTo pos (starEach es X.env)).any (·.1) = false := by rfl) :
    VE X P (.Call (.Name x p) (e :: es) [] pos) (eCallU n F ga) := by
  obtain ⟨f, fd, h1, h2, h3, h4, _⟩ := D.ex
  refine PE.weak (pe_call (E := fun _ _ _ => False) h4 hr hg h1 h2 h3 .nil pass0 ha hdb he hpl) fun σ H Q h => ?_
  obtain ⟨Bf, ow, en, k, d, en', hf, q⟩ := h
  unfold eCallU at hf
  split at hf <;> first | cases hf | skip
  rename_i ds en1 g1
  split at hf <;> first | cases hf | skip
  rename_i hl
  split at hf <;> first | cases hf | skip
  rename_i d' as' hF
  split at hf <;> first | cases hf | skip
  rename_i hfl
  refine ⟨Bf, ow, en, k, ds, _, g1, fun vs ow1 H1 k1 r1 p1 => ?_⟩
  show spV ⟨[], P.tb⟩ n F (vs ++ []) H1 Q _
  rw [List.append_nil]
  have kc : Ok ⟨[], P.tb⟩ ⟨fun _ => False, fun _ => False⟩ (fun _ => none) (ds.map Sl.va) (vs.map some) H1 := by
    refine ⟨by simp [p1.length], fun j d e => ?_, fun j d e => ?_, fun j s e f => ?_, fun j a e => (nomatch e), fun j l a e _ => (nomatch e), fun b z => z.elim, fun b z => z.elim, fun j a e => (nomatch e), k1.htab⟩
    · rw [List.getElem?_map] at e
      cases em : ds[j]? with
      | none => rw [em] at e; cases e
      | some m =>
        rw [em] at e
        cases e
        obtain ⟨v, w1, w2⟩ := p1.get em
        exact ⟨v, by rw [List.getElem?_map, w1]; rfl, w2.move fun b o e _ _ => ⟨e, fun z => z.elim (fun z => z) fun ⟨_, z⟩ => nomatch z⟩⟩
    · rw [List.getElem?_map] at e
      cases em : ds[j]? with
      | none => rw [em] at e; cases e
      | some m => rw [em] at e; cases e
    · rw [List.getElem?_map] at e
      cases em : ds[j]? with
      | none => rw [em] at e; cases e
      | some m => rw [em] at e; cases e; cases f
  have noN : ∀ (j : Nat) (d : VL.D), (ds.map Sl.va)[j]? ≠ some (Sl.vn d) := fun j d e => by
    rw [List.getElem?_map] at e
    cases em : ds[j]? with
    | none => rw [em] at e; cases e
    | some m => rw [em] at e; cases e
  refine ⟨_, fun _ => none, _, by rw [List.length_map]; exact hl, kc, (fun i a e => (nomatch e)), noN, d, as', hF, fun v H' af p => ?_⟩
  have ex : ExtT P.tb H1 H' := ⟨fun b o e t => af.keep b o e t fun j z => (nomatch z), af.dom, fun _ => af.tab⟩
  exact q v ow1 H' (k1.extT ex) (r1.trans ex.rel) (p.flat hfl)
end
end VL

namespace VL
open PySem PySem.Spec
open PyProof.Rows L2

theorem pl_not {i : Nat} {ps : List Nat} {tb : List (Addr × Str)} (h : i ∉ ps) : i ∉ (⟨ps, tb⟩ : Pl) := h
theorem pl_all {vs ps : List Nat} {tb : List (Addr × Str)} (h : ∀ i ∈ vs, i ∉ ps) : ∀ i ∈ vs, i ∉ (⟨ps, tb⟩ : Pl) := h
/-! ### dicts of one's own: keys by data -/
def keyF : D → Option Key
  | .int n => some (.inl n)
  | .str x => some (.inr x)
  | _ => none
def keysF : List D → Option (List Key)
  | [] => some []
  | d :: r => match keyF d with
    | some k => match keysF r with
      | some ks => some (k :: ks)
      | none => none
    | none => none
/-- a key: a number or a text (t false), a tuple of these (t true) -/
def keyD (t : Bool) : D → Option (List Key)
  | .tuple ds => if t then keysF ds else none
  | d => if t then none else (keyF d).map fun k => [k]
/-- a key's data -/
def kToD (t : Bool) (k : List Key) : D := if t then .tuple (k.map kD) else match k with
  | k :: _ => kD k
  | [] => .none
theorem keyF_v {H : Hp} {B : Addr → Prop} {d : D} {v : V} {k : Key} (r : Rp H B d v) (e : keyF d = some k) : v = kV k := by
  cases r <;> simp [keyF] at e <;> subst e <;> rfl
theorem keysF_v {H : Hp} {B : Addr → Prop} : ∀ {ds : List D} {vs : List V} {ks : List Key}, RpL H B ds vs → keysF ds = some ks → vs = ks.map kV
  | [], _, _, .nil, e => by cases e; rfl
  | d :: ds, _, ks, .cons (v := v) (vs := vs) r rs, e => by
    unfold keysF at e
    split at e <;> first | cases e | skip
    rename_i k h1
    split at e <;> first | cases e | skip
    rename_i ks' h2
    rw [List.map_cons, keyF_v r h1, keysF_v rs h2]
theorem keyD_f {H : Hp} {B : Addr → Prop} {d : D} {v : V} {k : List Key} (r : Rp H B d v) (e : keyD false d = some k) : ∃ k0, k = [k0] ∧ v = kV k0 := by
  unfold keyD at e
  split at e
  · cases e
  · cases h : keyF d with
    | none => rw [h] at e; cases e
    | some k0 =>
      rw [h] at e
      cases e
      exact ⟨k0, rfl, keyF_v r h⟩
theorem keyD_t {H : Hp} {B : Addr → Prop} {d : D} {v : V} {k : List Key} (r : Rp H B d v) (e : keyD true d = some k) : ∃ b, v = .ref b ∧ H b = some (.tup (k.map kV)) := by
  unfold keyD at e
  split at e
  · rename_i ds
    cases r with
    | tup nb r rs =>
      have := keysF_v rs e
      subst this
      exact ⟨_, rfl, r⟩
  · cases e
def valD (kvs : DKV) (k : List Key) : Option D := (kvs.find? fun p => decide (p.1 = k)).map (·.2)
def putD (kvs : DKV) (k : List Key) (d : D) : DKV :=
  if (kvs.any fun p => decide (p.1 = k)) = true then kvs.map (fun p => if p.1 = k then (p.1, d) else p) else kvs ++ [(k, d)]
def RelO' (H : Hp) (B : Addr → Prop) : Option D → Option V → Prop
  | some d, some v => Rp H B d v
  | none, none => True
  | _, _ => False
theorem pr_val {κ : Type} [DecidableEq κ] {H : Hp} {B : Addr → Prop} {f : κ → List Key} (hf : ∀ a b, f a = f b → a = b) (k : κ) : ∀ {kvs : DKV} {ks : List (κ × V)}, Paired (fun (p : List Key × D) (q : κ × V) => p.1 = f q.1 ∧ Rp H B p.2 q.2) kvs ks → RelO' H B (valD kvs (f k)) (valV ks k)
  | _, _, .nil => trivial
  | _, _, .cons (a := p) (b := q) r rs => by
    by_cases h : q.1 = k
    · have h' : p.1 = f k := by rw [r.1, h]
      have e1 : ∀ kvs, valD (p :: kvs) (f k) = some p.2 := fun kvs => by simp [valD, List.find?_cons, h']
      have e2 : ∀ ks, valV (q :: ks) k = some q.2 := fun ks => by simp [valV, List.find?_cons, h]
      rw [e1, e2]
      exact r.2
    · have h' : ¬ p.1 = f k := fun z => h (hf _ _ (r.1.symm.trans z))
      have e1 : ∀ kvs, valD (p :: kvs) (f k) = valD kvs (f k) := fun kvs => by simp [valD, List.find?_cons, h']
      have e2 : ∀ ks, valV (q :: ks) k = valV ks k := fun ks => by simp [valV, List.find?_cons, h]
      rw [e1, e2]
      exact pr_val hf k rs
theorem pr_any {κ : Type} [DecidableEq κ] {H : Hp} {B : Addr → Prop} {f : κ → List Key} (hf : ∀ a b, f a = f b → a = b) (k : κ) : ∀ {kvs : DKV} {ks : List (κ × V)}, Paired (fun (p : List Key × D) (q : κ × V) => p.1 = f q.1 ∧ Rp H B p.2 q.2) kvs ks → (kvs.any fun p => decide (p.1 = f k)) = ks.any fun kv => decide (kv.1 = k)
  | _, _, .nil => rfl
  | _, _, .cons (a := p) (b := q) r rs => by
    rw [List.any_cons, List.any_cons, pr_any hf k rs]
    congr 1
    rw [decide_eq_decide, r.1]
    exact ⟨fun z => hf _ _ z, fun z => by rw [z]⟩
theorem pr_snoc {κ : Type} {F : List Key × D → κ × V → Prop} {p : List Key × D} {q : κ × V} (r : F p q) : ∀ {kvs : DKV} {ks : List (κ × V)}, Paired F kvs ks → Paired F (kvs ++ [p]) (ks ++ [q])
  | _, _, .nil => .cons r .nil
  | _, _, .cons h t => .cons h (pr_snoc r t)
theorem pr_map {κ : Type} [DecidableEq κ] {H : Hp} {B : Addr → Prop} {f : κ → List Key} (hf : ∀ a b, f a = f b → a = b) (k : κ) {d : D} {v : V} (rd : Rp H B d v) : ∀ {kvs : DKV} {ks : List (κ × V)}, Paired (fun (p : List Key × D) (q : κ × V) => p.1 = f q.1 ∧ Rp H B p.2 q.2) kvs ks →
    Paired (fun (p : List Key × D) (q : κ × V) => p.1 = f q.1 ∧ Rp H B p.2 q.2) (kvs.map (fun p => if p.1 = f k then (p.1, d) else p)) (ks.map fun kv => if kv.1 = k then (kv.1, v) else kv)
  | _, _, .nil => .nil
  | _, _, .cons (a := p) (b := q) r rs => by
    rw [List.map_cons, List.map_cons]
    refine .cons ?_ (pr_map hf k rd rs)
    by_cases e : q.1 = k
    · rw [if_pos e, if_pos (by rw [r.1, e])]
      exact ⟨r.1, rd⟩
    · rw [if_neg e, if_neg fun z => e (hf _ _ (r.1.symm.trans z))]
      exact r
theorem pr_put {κ : Type} [DecidableEq κ] {H : Hp} {B : Addr → Prop} {f : κ → List Key} (hf : ∀ a b, f a = f b → a = b) (k : κ) {d : D} {v : V} (rd : Rp H B d v) {kvs : DKV} {ks : List (κ × V)} (h : Paired (fun (p : List Key × D) (q : κ × V) => p.1 = f q.1 ∧ Rp H B p.2 q.2) kvs ks) :
    Paired (fun (p : List Key × D) (q : κ × V) => p.1 = f q.1 ∧ Rp H B p.2 q.2) (putD kvs (f k) d) (putK ks k v) := by
  unfold putD putK
  rw [pr_any hf k h]
  split
  · exact pr_map hf k rd h
  · exact pr_snoc (p := (f k, d)) (q := (k, v)) ⟨rfl, rd⟩ h
theorem single_inj : ∀ a b : Key, [a] = [b] → a = b := fun a b e => by injection e
theorem DcAt.get {H : Hp} {B : Addr → Prop} {a : Addr} {t : Bool} {kvs : DKV} {dk : D} {y : V} {k : List Key} (h : DcAt H B a t kvs) (r : Rp H B dk y) (e : keyD t dk = some k) : ∃ o, DGet H a y o ∧ RelO' H B (valD kvs k) o := by
  cases t with
  | false =>
    obtain ⟨ks, h1, h2⟩ := h
    obtain ⟨k0, rfl, rfl⟩ := keyD_f r e
    exact ⟨_, DGet.k h1, pr_val (f := fun k => [k]) single_inj k0 h2⟩
  | true =>
    obtain ⟨ks, h1, h2⟩ := h
    obtain ⟨b, rfl, hb⟩ := keyD_t r e
    exact ⟨_, DGet.t h1 hb, pr_val (f := fun k => k) (fun _ _ z => z) k h2⟩
theorem Paired.len {α β : Type} {F : α → β → Prop} : ∀ {l₁ : List α} {l₂ : List β}, Paired F l₁ l₂ → l₁.length = l₂.length
  | _, _, .nil => rfl
  | _, _, .cons _ t => congrArg (· + 1) (Paired.len t)
/-- written -/
theorem DcAt.put {H : Hp} {B : Addr → Prop} {a : Addr} {t : Bool} {kvs : DKV} {dk d : D} {y v : V} {k : List Key} (h : DcAt H B a t kvs) (ha : B a) (r : Rp H B dk y) (e : keyD t dk = some k) (rd : Rp H B d v) (hl : kvs.length < sizeLine) : ∃ o', NT o' ∧ DPut H a y v (upd H a o') ∧ OwnAt (upd H a o') B a (.dc t (putD kvs k d)) := by
  have mv : ∀ o', ∀ b o, H b = some o → NT o → ¬ B b → upd H a o' b = some o ∧ ¬ B b := fun o' b o h t n => ⟨by rw [upd_ne fun z => n (by rw [z]; exact ha)]; exact h, n⟩
  cases t with
  | false =>
    obtain ⟨ks, h1, h2⟩ := h
    obtain ⟨k0, rfl, rfl⟩ := keyD_f r e
    refine ⟨.dK (putK ks k0 v), (fun _ z => nomatch z), DPut.k h1 (by rw [← Paired.len h2]; exact hl), _, upd_same, ?_⟩
    exact Paired.mapP (pr_put (f := fun k => [k]) single_inj k0 rd h2) fun p q z => ⟨z.1, z.2.move (mv _)⟩
  | true =>
    obtain ⟨ks, h1, h2⟩ := h
    obtain ⟨b, rfl, hb⟩ := keyD_t r e
    refine ⟨.dT (putK ks k v), (fun _ z => nomatch z), DPut.t h1 hb (by rw [← Paired.len h2]; exact hl), _, upd_same, ?_⟩
    exact Paired.mapP (pr_put (f := fun k => k) (fun _ _ z => z) k rd h2) fun p q z => ⟨z.1, z.2.move (mv _)⟩
theorem DcAt.isD {H : Hp} {B : Addr → Prop} {a : Addr} {t : Bool} {kvs : DKV} (h : DcAt H B a t kvs) : IsD H a := by
  cases t with
  | false =>
    obtain ⟨ks, h1, h2⟩ := h
    exact .inl ⟨_, .inl h1⟩
  | true =>
    obtain ⟨ks, h1, h2⟩ := h
    exact .inr ⟨_, .inl h1⟩

def isDc : Option Sl → Bool
  | some (.dc _ _) => true
  | _ => false
theorem isDc_of {o : Option Sl} (h : isDc o = true) : ∃ t kvs, o = some (.dc t kvs) := by
  unfold isDc at h
  split at h
  · exact ⟨_, _, rfl⟩
  · cases h
section
variable {X : Cx} {P : Pl} {a b e ix : Expr} {es : List Expr} {fa fb fc : FE} {ga : FA} {pos apos cpos : Pos}
/-- x = {} -/
def sNewD (i : Nat) (t : Bool) : FS := fun en => if i < en.length then some (.nx (en.set i (.dc t []))) else none
theorem put_relO {ow ow1 : Nat → Option Addr} {H H1 : Hp} {p : Addr} {i : Nat} (hP : i ∉ P) (r : Rel P H ow H1 ow1) (hp : H p = none) : RelS P H ow H1 (putOw ow1 i p) := put_rel hP r hp
theorem vs_newD {i : Nat} {x : Str} {pos' dpos : Pos} (t : Bool) (hN : X.N.Nodup) (hi : X.N[i]? = some x) (hx : Loc X.env.scope x := by first | exact .inl rfl | exact .inr rfl) (hP : i ∉ P) (hs : swapsWith (.Dict [] [] dpos) (some (.Name x pos')) pos.line X.env = pure false := by rfl)
    (hf : X.fn x = true ∨ X.env.scope.names.lookup x = some .local := by first | exact .inl rfl | exact .inr rfl | assumption) : VS X P (.Assign [.Name x pos'] (.Dict [] [] dpos) pos) (sNewD i t) := by
  have key : ∀ (Dn : Ends) (σ : L2.St) (H : Hp), tvS P (sNewD i t) Dn σ H → ∀ p, H p = none → ∀ o', NT o' → OwnAt (upd H p o') NoB p (.dc t []) → Dn.nx (σ.set i (some (.ref p))) (upd H p o') := fun Dn σ H h p hp o' nt ho => by
    obtain ⟨Bf, ow, en, k, o, hf, q⟩ := h
    unfold sNewD at hf
    split at hf <;> first | cases hf | skip
    rename_i hl
    have np := k.nb hp
    have ho2 : OwnAt (upd H p o') (blk (insB Bf p) ow) p (.dc t []) := by
      cases t with
      | false =>
        obtain ⟨ks, h1, h2⟩ := ho
        cases h2
        exact ⟨[], h1, .nil⟩
      | true =>
        obtain ⟨ks, h1, h2⟩ := ho
        cases h2
        exact ⟨[], h1, .nil⟩
    exact q _ _ _ ((k.avoid hp).putO rfl hP hl (fun z => np (.inl z)) (fun z => k.hod p z hp) (fun j z => np (.inr ⟨j, z⟩)) ho2) (put_rel hP (Ext.upd hp).rel hp)
  cases t with
  | false => exact PS.weak (ps_set hN hi hx pe_dnewK hs hf) fun Dn σ H h p hp => key Dn σ H h p hp _ (fun _ z => nomatch z) ⟨[], upd_same, .nil⟩
  | true => exact PS.weak (ps_set hN hi hx pe_dnewT hs hf) fun Dn σ H h p hp => key Dn σ H h p hp _ (fun _ z => nomatch z) ⟨[], upd_same, .nil⟩
/-- x[k] = e -/
def sPutD (i : Nat) (f g : FE) : FS := fun en => match f en with
  | some (d, en1) => if isDc en1[i]? then (match g en1 with
    | some (z, en2) => match en2[i]? with
      | some (.dc t kvs) => match keyD t z with
        | some k => if kvs.length < sizeLine then some (.nx (en2.set i (.dc t (putD kvs k d)))) else none
        | none => none
      | _ => none
    | none => none) else none
  | none => none
theorem vs_putD {i : Nat} {x : Str} {p' : Pos} (hu : X.A.units + 64 < cLine) (hN : X.N[i]? = some x) (hv : Vis X.env.scope x := by first | exact .inl rfl | exact .inr (.inl rfl) | exact .inr (.inr rfl)) (hx : VE X P ix fb) (he : VE X P e fa)
    (hd : (x == ("__debug__" : Str)) = false := by decide) (hcd : (x == ("__classdict__" : Str)) = false := by decide) (hs : swapsWith e (some (.Subscript (.Name x p') ix apos)) pos.line X.env = pure false := by rfl) :
    VS X P (.Assign [.Subscript (.Name x p') ix apos] e pos) (sPutD i fa fb) :=
  PS.weak (ps_dput (by omega) (pe_var hN hv hd hcd) hx he hs) fun Dn σ H h => by
    obtain ⟨Bf, ow, en, k, o, hf, q⟩ := h
    unfold sPutD at hf
    split at hf <;> first | cases hf | skip
    rename_i d en1 h1
    split at hf <;> first | cases hf | skip
    rename_i h0
    obtain ⟨t0, kvs0, e0⟩ := isDc_of h0
    refine ⟨Bf, ow, en, k, d, en1, h1, fun v ow1 H1 k1 r1 p1 => ?_⟩
    obtain ⟨a, g1, g2, g3⟩ := k1.hdc i t0 kvs0 e0
    split at hf <;> first | cases hf | skip
    rename_i z en2 h2
    split at hf <;> first | cases hf | skip
    rename_i t kvs h3
    split at hf <;> first | cases hf | skip
    rename_i kk hk
    split at hf <;> first | cases hf | skip
    rename_i hl
    refine ⟨_, g2, Bf, ow1, en1, k1, _, en2, h2, fun u ow2 H2 k2 r2 p2 => ?_⟩
    obtain ⟨a', w1, w2, w3⟩ := dc_back k1 k2 r2 h3
    rw [g1] at w1
    cases w1
    obtain ⟨o', nt, hp, ho⟩ := w3.put (.inr ⟨i, w2⟩) p2 hk (r2.rp p1) hl
    obtain ⟨k3, r3⟩ := k2.wrO w2 rfl nt ho
    exact ⟨a, _, rfl, hp, q _ _ _ k3 ((r1.trans r2).trans r3).s⟩
/-- x[k] -/
def eGetD (i : Nat) (g : FE) : FE := fun en => if isDc en[i]? then (match g en with
  | some (z, en1) => match en1[i]? with
    | some (.dc t kvs) => match keyD t z with
      | some k => match valD kvs k with
        | some d => some (d, en1)
        | none => none
      | none => none
    | _ => none
  | none => none) else none
theorem ve_getD {i : Nat} {x : Str} {p' : Pos} (hu : X.A.units + 64 < cLine) (hN : X.N[i]? = some x) (hv : Vis X.env.scope x := by first | exact .inl rfl | exact .inr (.inl rfl) | exact .inr (.inr rfl)) (hx : VE X P ix fb) (hs : NoSl ix := by intro _ _; rfl)
    (hd : (x == ("__debug__" : Str)) = false := by decide) (hcd : (x == ("__classdict__" : Str)) = false := by decide) : VE X P (.Subscript (.Name x p') ix pos) (eGetD i fb) :=
  PE.weak (pe_dget (by omega) (pe_var hN hv hd hcd) hx hs) fun σ H Q h => by
    obtain ⟨Bf, ow, en, k, d, en', hf, q⟩ := h
    unfold eGetD at hf
    split at hf <;> first | cases hf | skip
    rename_i h0
    obtain ⟨t0, kvs0, e0⟩ := isDc_of h0
    obtain ⟨a, g1, g2, g3⟩ := k.hdc i t0 kvs0 e0
    split at hf <;> first | cases hf | skip
    rename_i z en1 h1
    split at hf <;> first | cases hf | skip
    rename_i t kvs h2
    split at hf <;> first | cases hf | skip
    rename_i kk hk
    split at hf <;> first | cases hf | skip
    rename_i d' h3
    refine ⟨_, g2, Bf, ow, en, k, _, _, h1, fun v ow1 H1 k1 r1 p1 => ?_⟩
    obtain ⟨a', w1, w2, w3⟩ := dc_back k k1 r1 h2
    rw [g1] at w1
    cases w1
    obtain ⟨o, u1, u2⟩ := w3.get p1 hk
    rw [h3] at u2
    cases o with
    | none => exact u2.elim
    | some v' => exact ⟨a, v', rfl, u1, q v' ow1 H1 k1 r1 u2⟩
/-- x.get(k, e) -/
def eGetDf (i : Nat) (g f : FE) : FE := fun en => if isDc en[i]? then (match g en with
  | some (z, en1) => match f en1 with
    | some (y, en2) => match en2[i]? with
      | some (.dc t kvs) => match keyD t z with
        | some k => some ((valD kvs k).getD y, en2)
        | none => none
      | _ => none
    | none => none
  | none => none) else none
theorem ve_getDf {i : Nat} {x : Str} {p' : Pos} {f : Expr} (hu : X.A.units + 64 < cLine) (hN : X.N[i]? = some x) (hv : Vis X.env.scope x := by first | exact .inl rfl | exact .inr (.inl rfl) | exact .inr (.inr rfl)) (hx : VE X P ix fb) (hy : VE X P f fc)
    (m : M2 X (.Name x p') "get" apos ix f cpos := by exact ⟨rfl, rfl, rfl, rfl⟩)
    (hd : (x == ("__debug__" : Str)) = false := by decide) (hcd : (x == ("__classdict__" : Str)) = false := by decide) : VE X P (.Call (.Attribute (.Name x p') "get" apos) [ix, f] [] cpos) (eGetDf i fb fc) :=
  PE.weak (pe_dget2 (by omega) (pe_var hN hv hd hcd) hx hy m) fun σ H Q h => by
    obtain ⟨Bf, ow, en, k, d, en', hf, q⟩ := h
    unfold eGetDf at hf
    split at hf <;> first | cases hf | skip
    rename_i h0
    obtain ⟨t0, kvs0, e0⟩ := isDc_of h0
    obtain ⟨a, g1, g2, g3⟩ := k.hdc i t0 kvs0 e0
    split at hf <;> first | cases hf | skip
    rename_i z en1 h1
    split at hf <;> first | cases hf | skip
    rename_i y en2 h2
    split at hf <;> first | cases hf | skip
    rename_i t kvs h3
    split at hf <;> first | cases hf | skip
    rename_i kk hk
    refine ⟨_, g2, a, rfl, g3.isD, Bf, ow, en, k, _, _, h1, fun v ow1 H1 k1 r1 p1 => ⟨Bf, ow1, en1, k1, _, _, h2, fun u ow2 H2 k2 r2 p2 => ?_⟩⟩
    obtain ⟨a', w1, w2, w3⟩ := dc_back k k2 (r1.trans r2) h3
    rw [g1] at w1
    cases w1
    obtain ⟨o, u1, u2⟩ := w3.get (r2.rp p1) hk
    refine ⟨o, u1, q _ ow2 H2 k2 (r1.trans r2) ?_⟩
    cases hv : valD kvs kk with
    | none =>
      rw [hv] at u2
      cases o with
      | none => exact p2
      | some _ => exact u2.elim
    | some d' =>
      rw [hv] at u2
      cases o with
      | none => exact u2.elim
      | some _ => exact u2
/-- k in x, k not in x -/
def eInD (neg : Bool) (g : FE) (i : Nat) : FE := fun en => match g en with
  | some (z, en1) => match en1[i]? with
    | some (.dc t kvs) => match keyD t z with
      | some k => some (.bool (if neg then !(valD kvs k).isSome else (valD kvs k).isSome), en1)
      | none => none
    | _ => none
  | none => none
theorem RelO'.some_eq {H : Hp} {B : Addr → Prop} {o : Option D} {u : Option V} (r : RelO' H B o u) : o.isSome = u.isSome := by
  cases o <;> cases u <;> first | rfl | exact r.elim
theorem in_reads {i : Nat} {x : Str} {neg : Bool} (hN : X.N[i]? = some x) (σ : L2.St) (H : Hp) (Q : L2.VK) (h : tv P (eInD neg fb i) σ H Q) : tv P fb σ H fun y H1 => ∃ v : V, σ[i]? = some (some v) ∧ ∃ a o, v = .ref a ∧ DGet H1 a y o ∧ Q (.bl (if neg then !o.isSome else o.isSome)) H1 := by
  obtain ⟨Bf, ow, en, k, d, en', hf, q⟩ := h
  unfold eInD at hf
  split at hf <;> first | cases hf | skip
  rename_i z en1 h1
  split at hf <;> first | cases hf | skip
  rename_i t kvs h2
  split at hf <;> first | cases hf | skip
  rename_i kk hk
  refine ⟨Bf, ow, en, k, _, _, h1, fun v ow1 H1 k1 r1 p1 => ?_⟩
  obtain ⟨a, w1, w2, w3⟩ := k1.hdc i t kvs h2
  obtain ⟨o, u1, u2⟩ := w3.get p1 hk
  refine ⟨_, w2, a, o, rfl, u1, ?_⟩
  rw [← u2.some_eq]
  exact q _ ow1 H1 k1 r1 (.bl _)
theorem vt_inD {i : Nat} {x : Str} {p' : Pos} (hu : X.A.units + 64 < cLine) (hN : X.N[i]? = some x) (hv : Vis X.env.scope x := by first | exact .inl rfl | exact .inr (.inl rfl) | exact .inr (.inr rfl)) (hx : VE X P ix fb)
    (hd : (x == ("__debug__" : Str)) = false := by decide) (hcd : (x == ("__classdict__" : Str)) = false := by decide) : VT X P (.Compare ix [.In] [.Name x p'] pos) (fBool (eInD false fb i)) :=
  PT.weak (pt_cmp (pc_din (by omega) hx (pe_var hN hv hd hcd))) fun σ H Q h => by
    obtain ⟨Bf, ow, en, k, d, en', h1, q⟩ := in_reads hN σ H _ (tvT_bool σ H Q h)
    refine ⟨Bf, ow, en, k, d, en', h1, fun v ow1 H1 k1 r1 p1 => ?_⟩
    obtain ⟨v', g1, a, o, g2, g3, g4⟩ := q v ow1 H1 k1 r1 p1
    exact ⟨v', g1, a, o, g2, g3, g4⟩
theorem vt_notinD {i : Nat} {x : Str} {p' : Pos} (hu : X.A.units + 64 < cLine) (hN : X.N[i]? = some x) (hv : Vis X.env.scope x := by first | exact .inl rfl | exact .inr (.inl rfl) | exact .inr (.inr rfl)) (hx : VE X P ix fb)
    (hd : (x == ("__debug__" : Str)) = false := by decide) (hcd : (x == ("__classdict__" : Str)) = false := by decide) : VT X P (.Compare ix [.NotIn] [.Name x p'] pos) (fBool (eInD true fb i)) :=
  PT.weak (pt_cmp (pc_dnotin (by omega) hx (pe_var hN hv hd hcd))) fun σ H Q h => by
    obtain ⟨Bf, ow, en, k, d, en', h1, q⟩ := in_reads hN σ H _ (tvT_bool σ H Q h)
    refine ⟨Bf, ow, en, k, d, en', h1, fun v ow1 H1 k1 r1 p1 => ?_⟩
    obtain ⟨v', g1, a, o, g2, g3, g4⟩ := q v ow1 H1 k1 r1 p1
    exact ⟨v', g1, a, o, g2, g3, g4⟩
end
end VL

namespace VL
open PySem PySem.Spec
open PyProof.Rows L2

/-! ### is, is not: None, truth values -/
def gIsA : D → D → Option D
  | d, .none => some (.bool (isNone d))
  | .bool a, .bool b => some (.bool (decide (a = b)))
  | _, _ => none
def gIsNotA : D → D → Option D
  | d, .none => some (.bool (!isNone d))
  | .bool a, .bool b => some (.bool (!decide (a = b)))
  | _, _ => none
def rIsA : R2 := fun x y H Q => (y = .non ∧ Q (.bl (decide (x = .non))) H) ∨ rIsB x y H Q
def rIsNotA : R2 := fun x y H Q => (y = .non ∧ Q (.bl (!decide (x = .non))) H) ∨ rNotB x y H Q
theorem op_isA {X : Cx} : OpR X (compareOp .Is) rIsA := op_isN.or op_isBl
theorem op_isNotA {X : Cx} : OpR X (compareOp .IsNot) rIsNotA := op_notN.or op_notBl
theorem ov_isA : OpV rIsA gIsA := by
  intro H B d1 d2 d v1 v2 Q e p1 p2 nb q
  unfold gIsA at e
  split at e
  · cases e
    cases p2
    refine .inl ⟨rfl, q _ H .refl ?_⟩
    rw [p1.none_iff]
    exact .bl _
  · cases e
    cases p1
    cases p2
    exact .inr ⟨_, _, rfl, rfl, q _ H .refl (.bl _)⟩
  · cases e
theorem ov_isnotA : OpV rIsNotA gIsNotA := by
  intro H B d1 d2 d v1 v2 Q e p1 p2 nb q
  unfold gIsNotA at e
  split at e
  · cases e
    cases p2
    refine .inl ⟨rfl, q _ H .refl ?_⟩
    rw [p1.none_iff]
    exact .bl _
  · cases e
    cases p1
    cases p2
    exact .inr ⟨_, _, rfl, rfl, q _ H .refl (.bl _)⟩
  · cases e

/-! ### repr of numbers, truth values, None -/
def gRepr : List D → Option D
  | [.int i] => if i.natAbs.log2 < 1920 then some (.str (toString i)) else none
  | [.bool b] => some (.str (if b then "True" else "False"))
  | [.none] => some (.str "None")
  | _ => none
def rRepr : List V → Hp → L2.VK → Prop := fun xs H Q => (∃ i : Int, xs = [.int i] ∧ i.natAbs.log2 < 1920 ∧ Q (.str (toString i)) H) ∨ (∃ b, xs = [.bl b] ∧ Q (.str (if b then "True" else "False")) H) ∨ (xs = [.non] ∧ Q (.str "None") H)
theorem call_repr {X : Cx} : CallR X (.builtin "repr") rRepr := by
  intro pins s σ H xs us Q I r h
  rcases h with ⟨i, rfl, hz, q⟩ | ⟨b, rfl, q⟩ | ⟨rfl, q⟩
  · obtain ⟨u, rfl, t, rfl⟩ := vals1 r
    exact PySem.P.repr_of_int hz ⟨.str _, H, I.tok _, ⟨_, rfl⟩, q⟩
  · obtain ⟨u, rfl, rx⟩ := vals1 r
    cases rx
    exact PySem.P.repr_of_bool ⟨.str _, H, I.tok _, ⟨_, rfl⟩, q⟩
  · obtain ⟨u, rfl, rx⟩ := vals1 r
    cases rx
    exact PySem.P.repr_of_none ⟨.str _, H, I.tok _, ⟨_, rfl⟩, q⟩
theorem ca_repr : CaV rRepr gRepr := by
  intro H B ds d vs Q e r nb q
  unfold gRepr at e
  split at e
  · split at e <;> first | cases e | skip
    rename_i h
    cases r with
    | cons p r =>
      cases r
      cases p
      exact .inl ⟨_, rfl, h, q _ H .refl (.str _)⟩
  · cases e
    cases r with
    | cons p r =>
      cases r
      cases p
      exact .inr (.inl ⟨_, rfl, q _ H .refl (.str _)⟩)
  · cases e
    cases r with
    | cons p r =>
      cases r
      cases p
      exact .inr (.inr ⟨rfl, q _ H .refl (.str _)⟩)
  · cases e

/-! ### type(x) == T -/
section
variable {X : Cx} {P : Pl} {a b e : Expr} {es : List Expr} {fa fb : FE} {ga : FA} {pos apos cpos : Pos}
theorem tv_typ {T : String} {neg : Bool} (hT : T ∈ tyNames) (σ : L2.St) (H : Hp) (Q : L2.VK) (h : tv P (eTyp neg T fa) σ H Q) :
    tv P fa σ H fun v H1 => ∃ a, TyB X.K H1 v a ∧ a ∈ tyNames ∧ Q (.bl (if neg then !decide (a = T) else decide (a = T))) H1 := by
  obtain ⟨Bf, ow, en, k, d, en', hf, q⟩ := h
  unfold eTyp at hf
  split at hf <;> first | cases hf | skip
  rename_i d1 h1
  refine ⟨Bf, ow, en, k, d1, _, h1, fun v ow1 H1 k1 r1 p1 => ⟨typD d1, p1.tyb, typD_in _, ?_⟩⟩
  exact q _ ow1 H1 k1 r1 (.bl _)
theorem ve_typEq {T : String} {x : Str} {p1 p2 cpos : Pos} (hT : T ∈ tyNames) (hg : Gl X "type") (hm : X.mg "type" = none) (hgT : Gl X x) (hmT : X.mg x = none) (hbT : bootBuiltins x = some (.type T)) (he : VE X P e fa)
    (hnT : x ≠ "__name__" := by decide) (hdT : (x == ("__debug__" : Str)) = false := by decide) (hst : starEach [e] X.env = (false, eval e X.env) :: starEach [] X.env := by rfl) (hpl : (backTo cpos (starEach [] X.env)).any (·.1) = false := by rfl) :
    VE X P (.Compare (.Call (.Name "type" p1) [e] [] cpos) [.Eq] [.Name x p2] pos) (eTyp false T fa) :=
  PE.weak (pe_cmpR op_tyEq (pe_typ hg hm he hst hpl) (pe_bltn (v := .ty T) hgT hmT hbT rfl hnT hdT) (nomark _)) fun σ H Q h => by
    obtain ⟨Bf, ow, en, k, d, en', h1, q⟩ := tv_typ (X := X) hT σ H Q h
    exact ⟨Bf, ow, en, k, d, en', h1, fun v ow1 H1 k1 r1 p1 => by
      obtain ⟨a, g1, g2, g3⟩ := q v ow1 H1 k1 r1 p1
      exact ⟨v, a, rfl, g1, _, _, rfl, rfl, g2, hT, g3⟩⟩
theorem vt_typEq {T : String} {x : Str} {p1 p2 cpos : Pos} (hT : T ∈ tyNames) (hg : Gl X "type") (hm : X.mg "type" = none) (hgT : Gl X x) (hmT : X.mg x = none) (hbT : bootBuiltins x = some (.type T)) (he : VE X P e fa)
    (hnT : x ≠ "__name__" := by decide) (hdT : (x == ("__debug__" : Str)) = false := by decide) (hst : starEach [e] X.env = (false, eval e X.env) :: starEach [] X.env := by rfl) (hpl : (backTo cpos (starEach [] X.env)).any (·.1) = false := by rfl) :
    VT X P (.Compare (.Call (.Name "type" p1) [e] [] cpos) [.Eq] [.Name x p2] pos) (fBool (eTyp false T fa)) :=
  PT.weak (pt_cmpR op_tyEq (pe_typ hg hm he hst hpl) (pe_bltn (v := .ty T) hgT hmT hbT rfl hnT hdT) (nomark _)) fun σ H Q h => by
    obtain ⟨Bf, ow, en, k, d, en', h1, q⟩ := tv_typ (X := X) hT σ H _ (tvT_bool σ H Q h)
    exact ⟨Bf, ow, en, k, d, en', h1, fun v ow1 H1 k1 r1 p1 => by
      obtain ⟨a, g1, g2, g3⟩ := q v ow1 H1 k1 r1 p1
      exact ⟨v, a, rfl, g1, _, _, rfl, rfl, g2, hT, g3⟩⟩
theorem ve_typNe {T : String} {x : Str} {p1 p2 cpos : Pos} (hT : T ∈ tyNames) (hu : X.A.units + 64 < cLine) (hg : Gl X "type") (hm : X.mg "type" = none) (hgT : Gl X x) (hmT : X.mg x = none) (hbT : bootBuiltins x = some (.type T)) (he : VE X P e fa)
    (hnT : x ≠ "__name__" := by decide) (hdT : (x == ("__debug__" : Str)) = false := by decide) (hst : starEach [e] X.env = (false, eval e X.env) :: starEach [] X.env := by rfl) (hpl : (backTo cpos (starEach [] X.env)).any (·.1) = false := by rfl) :
    VE X P (.Compare (.Call (.Name "type" p1) [e] [] cpos) [.NotEq] [.Name x p2] pos) (eTyp true T fa) :=
  PE.weak (pe_cmpR (op_tyNe hu) (pe_typ hg hm he hst hpl) (pe_bltn (v := .ty T) hgT hmT hbT rfl hnT hdT) (nomark _)) fun σ H Q h => by
    obtain ⟨Bf, ow, en, k, d, en', h1, q⟩ := tv_typ (X := X) hT σ H Q h
    exact ⟨Bf, ow, en, k, d, en', h1, fun v ow1 H1 k1 r1 p1 => by
      obtain ⟨a, g1, g2, g3⟩ := q v ow1 H1 k1 r1 p1
      exact ⟨v, a, rfl, g1, _, _, rfl, rfl, g2, hT, g3⟩⟩
end

/-! ### sorted, of any data that are alike -/
/-- the order of data -/
def leD (x y : D) : Bool := PySem.W.dataLe false (fun d : D => d) x y
def sortD (ds : List D) : List D := ds.mergeSort leD
def geD (x y : D) : Bool := PySem.W.dataLe true (fun d : D => d) x y
def sortDR (ds : List D) : List D := ds.mergeSort geD
def headT : D → Bool
  | .tuple (_ :: _) => true
  | _ => false
def notT : D → Bool
  | .none => false
  | .tuple _ => false
  | .list _ => false
  | .dict _ => false
  | _ => true
def goodS (ds : List D) : Bool := decide (ds.length ≤ sizeLine) && (ds.all fun d => ds.all fun e => PySem.W.alike d e) && (ds.all headT || ds.all notT) && ds.all fun d => decide (d.depth ≤ 16)
theorem goodS_of {ds : List D} (h : goodS ds = true) : ds.length ≤ sizeLine ∧ PySem.W.AllAlike ds ∧ PySem.W.Sortable ds ∧ ∀ d ∈ ds, d.depth ≤ 16 := by
  unfold goodS at h
  simp only [Bool.and_eq_true, Bool.or_eq_true, decide_eq_true_eq, List.all_eq_true] at h
  obtain ⟨⟨⟨h1, h2⟩, h3⟩, h4⟩ := h
  refine ⟨h1, fun d hd d' hd' => h2 d hd d' hd', ?_, h4⟩
  rcases h3 with h3 | h3
  · refine .inl fun d hd => ?_
    have := h3 d hd
    unfold headT at this
    split at this
    · exact ⟨_, _, rfl⟩
    · cases this
  · refine .inr fun d hd => ?_
    have := h3 d hd
    refine ⟨fun z => ?_, fun xs z => ?_⟩ <;> (subst z; cases this)
/-- values that stand for data -/
def RvD (H : Hp) (B : Addr → Prop) (u : Value) (d : D) : Prop := ∃ x : V, RelV x u ∧ Rp H B d x
theorem each_in {H : Hp} {B : Addr → Prop} : ∀ {ds : List D} {xs : List V} {us : List Value}, RpL H B ds xs → Vals xs us → PySem.W.EachIs (RvD H B) us ds
  | [], _, _, .nil, .nil => .nil
  | _ :: _, _, _, .cons r rs, .cons h t => .cons ⟨_, h, r⟩ (each_in rs t)
theorem each_out {H : Hp} {B : Addr → Prop} : ∀ {ds : List D} {us : List Value}, PySem.W.EachIs (RvD H B) us ds → ∃ xs, RpL H B ds xs ∧ Vals xs us
  | [], _, .nil => ⟨[], .nil, .nil⟩
  | _ :: _, _, .cons ⟨x, h, r⟩ t => by
    obtain ⟨xs, h1, h2⟩ := each_out t
    exact ⟨x :: xs, .cons r h1, .cons h h2⟩
theorem each_reads {X : Cx} {pins : List (Addr × Obj)} {σ : L2.St} {H : Hp} {s : Shared} {B : Addr → Prop} (I : Inv X pins σ H s) : ∀ {ds : List D} {us : List Value}, PySem.W.EachIs (RvD H B) us ds → PySem.W.EachIs (fun v b => ∃ as, Reads s.heap v ((fun d : D => d) b) as) us ds
  | [], _, .nil => .nil
  | _ :: _, _, .cons ⟨x, h, r⟩ t => .cons (Dp.reads I _ x _ r.dp h) (each_reads I t)
def rSortedD : List V → Hp → L2.VK → Prop := fun vs H Q => ∃ B ds, RpL H B [.list ds] vs ∧ goodS ds = true ∧ ∀ p xs, H p = none → RpL H B (sortD ds) xs → Q (.ref p) (upd H p (.lst xs))
theorem cr_sortedD {X : Cx} (hu : X.A.units + 64 < cLine) : CallR X (.builtin "sorted") rSortedD := by
  intro pins s σ H vs us Q I r h
  obtain ⟨B, ds, rp, hg, q⟩ := h
  obtain ⟨hl, hal, hk, hd⟩ := goodS_of hg
  cases rp with
  | cons p rp =>
    cases rp
    cases p with
    | lst nb rd rs =>
      rename_i a xs
      obtain ⟨its, rv, pl, hz⟩ := I.list (.inl rd)
      rw [Vals.ref1 r]
      have e := each_in rs rv
      refine PySem.W.sorted_data (R := RvD H B) (enc := fun d : D => d) (bs := ds) pl.isList e (each_reads I e) (by rw [List.map_id']; exact hal) (by rw [List.map_id']; exact hk) hl (fun b hb => by have := hd b hb; show X.A.units + 2 + b.depth < cLine; omega) fun out ho hout => ?_
      obtain ⟨ys, h1, h2⟩ := each_out hout
      obtain ⟨ep, he'⟩ := PyProof.Rows.sortedAll_at s.heap its out.toArray
      have hlen : ys.length ≤ sizeLine := by
        rw [h2.length, ho]
        exact hl
      exact ⟨.ref _, upd H (s.heap.objs.size + 1) (.lst ys), I.laid (t' := s.toks) (fun _ _ => PyProof.Rows.sortedAll_old) (Nat.le_succ _) ⟨hlen, out, ep, h2, he'⟩, rfl, q _ _ (I.hok.fresh (Nat.le_succ _)) h1⟩
/-- sorted: ints and pairs by their own sorts, all else by the order of data -/
def gSortA : List D → Option (List D)
  | [.list ds] => match gSorted [.list ds] with
    | some r => some r
    | none => if goodS ds = true then some (sortD ds) else none
  | _ => none
theorem ca_sortA {K : PySem.W.Frag} : CaL (fun vs H Q => rSortedAll K vs H Q ∨ rSortedD vs H Q) gSortA := by
  intro H B ds es vs Q e r q
  unfold gSortA at e
  split at e <;> first | cases e | skip
  rename_i xs
  split at e
  · rename_i r' h
    cases e
    exact .inl (ca_sorted H B _ _ vs Q h r q)
  · split at e <;> first | cases e | skip
    rename_i hg
    exact .inr ⟨B, xs, r, hg, q⟩
theorem cr_sortA {X : Cx} (hu : X.A.units + 64 < cLine) : CallR X (.builtin "sorted") (fun vs H Q => rSortedAll X.K vs H Q ∨ rSortedD vs H Q) := by
  intro pins s σ H xs us Q I r h
  rcases h with h | h
  · exact cr_sortedAll pins s σ H xs us Q I r h
  · exact cr_sortedD hu pins s σ H xs us Q I r h

/-! ### sorted(d): the keys of a dict, numbers -/
theorem ints_keys : ∀ {us : List Value} {ns : List Int}, us.length = ns.length → (∀ (j : Nat) (v : Value), us[j]? = some v → ∃ (x : Int) (t : Tok), ns[j]? = some x ∧ v = Value.int x t) → IntsAre us ns
  | [], [], _, _ => .nil
  | u :: us, k :: ks, hl, h => by
    obtain ⟨x, t, e1, e2⟩ := h 0 u rfl
    have e1' : k = x := Option.some.inj e1
    subst e1'
    subst e2
    exact .cons _ _ (ints_keys (by simpa using hl) fun j v e => by
      obtain ⟨x, t, a, b⟩ := h (j + 1) v (by simpa using e)
      exact ⟨x, t, by simpa using a, b⟩)
  | [], _ :: _, hl, _ => by simp at hl
  | _ :: _, [], hl, _ => by simp at hl
def rSortedDK : List V → Hp → L2.VK → Prop := fun xs H Q => ∃ (a : Addr) (kvs : List (Key × V)) (ns : List Int), xs = [.ref a] ∧ H a = some (.dK kvs) ∧ kvs.map (·.1) = ns.map Sum.inl ∧ ∀ p, H p = none → Q (.ref p) (upd H p (.lst ((sortI ns).map V.int)))
theorem cr_sortedDK {X : Cx} (hcalm : X.calm = true) : CallR X (.builtin "sorted") rSortedDK := by
  intro pins s σ H xs us Q I r q
  obtain ⟨a, kvs, ns, ex, hd, hks, q⟩ := q
  subst ex
  obtain ⟨u, eu, rx⟩ := vals1 r
  subst eu
  cases rx
  obtain ⟨z, lo, vs, rel, dd⟩ := dk_rd I.hok (.inl hd)
  obtain ⟨ep, hat⟩ := dd.dictAt
  have hkeys : vs.map (·.1) = ns.map Sum.inl := rel.keys.symm.trans hks
  have hl : vs.length = ns.length := by
    have e := congrArg List.length hkeys
    rw [List.length_map, List.length_map] at e
    exact e
  have h16 : vs.length ≤ sizeLine := by rw [← rel.length]; exact z
  refine Calls.call_function_entry PyProof.Rows.kind_sorted PyProof.Rows.plain_sorted PyProof.Rows.entry_sorted (PyProof.Rows.args_sorted1 _) ?_
  unfold Builtin.«sorted»
  refine wpAny_bind (m := checkCount "sorted" 1 1 _) (wpAny_pure ?_)
  refine wpAny_bind (PySem.W.kdu_collect (A := X.A.in1) (PySem.W.kdl_dict (knd := mixKind X.prog X.w) (kvs := vs) (ep := ep) lo) (I.ok.hd hcalm) hat h16 fun h' tk acc hk hacc => ?_)
  have hal : acc.toList.length = ns.length := by rw [Array.length_toList, hacc.1, hl]
  have hS : IntsAre acc.toList ns := ints_keys hal fun j v e => by
    obtain ⟨k, x, e1, e2⟩ := hacc.2 j v (by rw [← Array.getElem?_toList]; exact e)
    have e3 : (vs.map (·.1))[j]? = some k := by rw [List.getElem?_map, e1]; all_goals rfl
    rw [hkeys, List.getElem?_map] at e3
    cases e4 : ns[j]? with
    | none => rw [e4] at e3; cases e3
    | some y =>
      rw [e4] at e3
      have e5 : Sum.inl y = k := Option.some.inj e3
      subst e5
      have e6 : keyIs (Sum.inl y) v = true := e2
      rcases keyIs_shape e6 with ⟨i, t, ek, ev⟩ | ⟨z, t, ek, ev⟩
      · cases ek
        exact ⟨_, t, rfl, ev⟩
      · cases ek
  have I1 : Inv X pins σ H { s with heap := h', toks := tk } := I.kept hk
  refine wpAny_bind (wpAny_newList ?_ (by rw [hal, ← hl]; exact h16))
  have hoL : (h'.push (seqObj "list" acc.toList.toArray 0)).get? h'.objs.size = some (seqObj "list" acc.toList.toArray 0) := Heap.get?_push_size _ rfl
  show wpAny _ _ _ _ _ { s with heap := h'.push (seqObj "list" acc.toList.toArray 0), toks := tk }
  refine wpAny_bind (wpAny_holding (wpAny_call_entry PyProof.Rows.slot_list_sort ⟨_, hoL, rfl⟩ PyProof.Rows.entry_list_sort
    (SrtO.list_sort_ord SrtO.swo_int (s := { s with heap := h'.push (seqObj "list" acc.toList.toArray 0), toks := tk }) hoL (by rw [hal, ← hl]; exact h16) (fun h2 => SrtO.ints_sortable hS h2) fun out h1 h2 => ⟨_, rfl, ?_⟩)
    (PyProof.Rows.args_list_sort _)))
  obtain ⟨k1, k2, k3⟩ := SrtO.ints_out hS h1 h2
  have := sortI_eq k2 k3
  obtain ⟨e', he'⟩ := PyProof.Rows.sortedHeap_at (vs := acc.toList) (out := out.toArray) hoL
  have hlen : ((sortI ns).map V.int).length ≤ sizeLine := by
    rw [List.length_map, (sortI_perm ns).length_eq, ← hl]
    exact h16
  rw [this] at k1
  refine wpAny_pure ⟨_, rfl, .ref h'.objs.size, upd H h'.objs.size (.lst ((sortI ns).map V.int)), I1.laid (t' := tk) (fun b u e => ?_) (Nat.le_refl _)
    (show ObjOk X.prog X.w _ _ _ (.lst ((sortI ns).map V.int)) from ⟨hlen, out, e', vals_of_ints k1, he'⟩), rfl, q _ (I1.hok.fresh (Nat.le_refl _))⟩
  have hb : b < h'.objs.size := Heap.lt_size e
  rw [PyProof.Rows.sortedHeap_old (Nat.ne_of_lt hb) (by rw [size_push']; exact Nat.lt_succ_of_lt hb)]
  exact Heap.get?_push_of_some _ e
def intKeys : DKV → Option (List Int)
  | [] => some []
  | ([.inl n], _) :: r => (intKeys r).map (n :: ·)
  | _ => none
def lSortedDK (i : Nat) : FL := fun en => match en[i]? with
  | some (.dc false kvs) => match intKeys kvs with
    | some ns => some ((sortI ns).map .int, en)
    | none => none
  | _ => none
theorem intKeys_of {H : Hp} {B : Addr → Prop} : ∀ {kvs : DKV} {ks : List (Key × V)} {ns : List Int}, Paired (fun (p : List Key × D) (q : Key × V) => p.1 = [q.1] ∧ Rp H B p.2 q.2) kvs ks → intKeys kvs = some ns → ks.map (·.1) = ns.map Sum.inl
  | _, _, _, .nil, e => by cases e; rfl
  | _, _, ns, .cons (a := p) (b := q) r rs, e => by
    obtain ⟨p1, p2⟩ := p
    have e1 : p1 = [q.1] := r.1
    subst e1
    cases hq : q.1 with
    | inr y => rw [hq] at e; simp [intKeys] at e
    | inl n =>
      rw [hq] at e
      simp only [intKeys] at e
      cases h2 : intKeys _ with
      | none => rw [h2] at e; cases e
      | some ms =>
        rw [h2] at e
        cases e
        rw [List.map_cons, List.map_cons, hq, intKeys_of rs h2]
section
variable {X : Cx} {P : Pl}
theorem vf_sortedDK {i : Nat} {x : Str} {p p' pos : Pos} (hc : X.calm = true) (hN : X.N[i]? = some x) (hv : Vis X.env.scope x := by first | exact .inl rfl | exact .inr (.inl rfl) | exact .inr (.inr rfl)) (hg : Gl X "sorted") (hm : X.mg "sorted" = none)
    (hd : (x == ("__debug__" : Str)) = false := by decide) (hcd : (x == ("__classdict__" : Str)) = false := by decide)
    (hst : starEach [.Name x p'] X.env = (false, eval (.Name x p') X.env) :: starEach [] X.env := by rfl) (hpl : (backTo pos (starEach [] X.env)).any (·.1) = false := by rfl) : VF X P (.Call (.Name "sorted" p) [.Name x p'] [] pos) (lSortedDK i) :=
  PE.weak (pe_callB (cr_sortedDK hc) hg hm (by decide +kernel) (pa_cons (pe_var hN hv hd hcd) pa_nil hst) (by decide) (by decide) hst hpl) fun σ H Q h => by
    obtain ⟨Bf, ow, en, k, d, en', hf, q⟩ := h
    unfold lSortedDK at hf
    split at hf <;> first | cases hf | skip
    rename_i kvs e0
    split at hf <;> first | cases hf | skip
    rename_i ns e1
    obtain ⟨a, g1, g2, g3⟩ := k.hdc i false kvs e0
    obtain ⟨ks, g4, g5⟩ := g3
    exact ⟨_, g2, a, ks, ns, rfl, g4, intKeys_of g5 e1, fun p hp => fresh_of (f := Q) k .refl hp (RpL.ofInts _) q⟩
end
end VL

namespace VL
open PySem PySem.Spec
open PyProof.Rows L2
/-! ### the data functions, gone through from the front: what holds behind each -/
def O1 {α : Type} (x : Option α) (Q : α → Prop) : Prop := ∃ a, x = some a ∧ Q a
def O2 {α β : Type} (x : Option (α × β)) (Q : α → β → Prop) : Prop := ∃ a b, x = some (a, b) ∧ Q a b
theorem O1.mono {α : Type} {x : Option α} {Q Q' : α → Prop} (h : O1 x Q) (w : ∀ a, Q a → Q' a) : O1 x Q' := let ⟨a, e, q⟩ := h; ⟨a, e, w a q⟩
theorem O2.mono {α β : Type} {x : Option (α × β)} {Q Q' : α → β → Prop} (h : O2 x Q) (w : ∀ a b, Q a b → Q' a b) : O2 x Q' := let ⟨a, b, e, q⟩ := h; ⟨a, b, e, w a b q⟩
theorem O1.of {α : Type} {x : Option α} {a : α} {Q : α → Prop} (e : x = some a) (q : Q a) : O1 x Q := ⟨a, e, q⟩
theorem O2.of {α β : Type} {x : Option (α × β)} {a : α} {b : β} {Q : α → β → Prop} (e : x = some (a, b)) (q : Q a b) : O2 x Q := ⟨a, b, e, q⟩
section
variable {P P' : List Nat} {i n m : Nat} {en : En} {f fa fb fc : FE} {g ga : FA} {t u : FT} {s s' : FS} {l : FL} {gm : FM} {Q : D → En → Prop} {QB : Bool → En → Prop} {QL : List D → En → Prop} {QM : List Md → En → Prop} {QO : Out → Prop} {QE : En → Prop}
theorem w_var {d : D} (e : en[i]? = some (.va d)) (q : Q d en) : O2 (eVar P i en) Q := ⟨_, _, by unfold eVar; rw [e], q⟩
theorem w_varN {d : D} (e : en[i]? = some (.vn d)) (q : Q d en) : O2 (eVar P i en) Q := ⟨_, _, by unfold eVar; rw [e], q⟩
theorem w_varO {ds : List D} (e : en[i]? = some (.ow ds)) (hi : i ∉ P) (q : Q (.list ds) (en.set i (.va (.list ds)))) : O2 (eVar P i en) Q := ⟨_, _, by unfold eVar; rw [e]; exact if_neg hi, q⟩
theorem w_c {d : D} (q : Q d en) : O2 (eC d en) Q := ⟨_, _, rfl, q⟩
theorem w_op {g : D → D → Option D} (h : O2 (fa en) fun x en1 => O2 (fb en1) fun y en2 => O1 (g x y) fun z => Q z en2) : O2 (eOp g fa fb en) Q := by
  obtain ⟨x, en1, h1, y, en2, h2, z, h3, q⟩ := h
  exact ⟨z, en2, by simp only [eOp, h1, h2, h3], q⟩
theorem w_tru (h : O2 (f en) fun d en1 => O1 (truD d) fun b => QB b en1) : O2 (fTru f en) QB := by
  obtain ⟨x, en1, h1, z, h3, q⟩ := h
  exact ⟨z, en1, by simp only [fTru, h1, h3], q⟩
theorem w_bool (h : O2 (f en) fun d en1 => ∃ b, d = .bool b ∧ QB b en1) : O2 (fBool f en) QB := by
  obtain ⟨x, en1, h1, z, rfl, q⟩ := h
  exact ⟨z, en1, by simp only [fBool, h1], q⟩
theorem w_not (h : O2 (t en) fun b en1 => QB (!b) en1) : O2 (fNot t en) QB := by
  obtain ⟨x, en1, h1, q⟩ := h
  exact ⟨_, en1, by simp only [fNot, h1], q⟩
theorem w_and (h : O2 (t en) fun b en1 => (b = true → O2 (u en1) QB) ∧ (b = false → QB false en1)) : O2 (fAnd t u en) QB := by
  obtain ⟨b, en1, h1, q1, q2⟩ := h
  cases b with
  | true =>
    obtain ⟨c, en2, h2, q⟩ := q1 rfl
    exact ⟨c, en2, by simp only [fAnd, h1, h2], q⟩
  | false => exact ⟨_, en1, by simp only [fAnd, h1], q2 rfl⟩
theorem w_or (h : O2 (t en) fun b en1 => (b = true → QB true en1) ∧ (b = false → O2 (u en1) QB)) : O2 (fOr t u en) QB := by
  obtain ⟨b, en1, h1, q1, q2⟩ := h
  cases b with
  | false =>
    obtain ⟨c, en2, h2, q⟩ := q2 rfl
    exact ⟨c, en2, by simp only [fOr, h1, h2], q⟩
  | true => exact ⟨_, en1, by simp only [fOr, h1], q1 rfl⟩
theorem w_yes (q : QB true en) : O2 (tYesV en) QB := ⟨_, _, rfl, q⟩
theorem w_eand (h : O2 (fa en) fun d en1 => ∃ b, d = .bool b ∧ (b = true → O2 (fb en1) Q) ∧ (b = false → Q (.bool false) en1)) : O2 (eAnd fa fb en) Q := by
  obtain ⟨d, en1, h1, b, rfl, q1, q2⟩ := h
  cases b with
  | true =>
    obtain ⟨c, en2, h2, q⟩ := q1 rfl
    exact ⟨c, en2, by simp only [eAnd, h1, h2], q⟩
  | false => exact ⟨_, en1, by simp only [eAnd, h1], q2 rfl⟩
theorem w_eor (h : O2 (fa en) fun d en1 => ∃ b, d = .bool b ∧ (b = true → Q (.bool true) en1) ∧ (b = false → O2 (fb en1) Q)) : O2 (eOr fa fb en) Q := by
  obtain ⟨d, en1, h1, b, rfl, q1, q2⟩ := h
  cases b with
  | false =>
    obtain ⟨c, en2, h2, q⟩ := q2 rfl
    exact ⟨c, en2, by simp only [eOr, h1, h2], q⟩
  | true => exact ⟨_, en1, by simp only [eOr, h1], q1 rfl⟩
theorem w_enot (h : O2 (f en) fun d en1 => ∃ b, d = .bool b ∧ Q (.bool (!b)) en1) : O2 (eNot f en) Q := by
  obtain ⟨d, en1, h1, b, rfl, q⟩ := h
  exact ⟨_, en1, by simp only [eNot, h1], q⟩
theorem w_eneg (h : O2 (f en) fun d en1 => ∃ b, d = .int b ∧ Q (.int (-b)) en1) : O2 (eNeg f en) Q := by
  obtain ⟨d, en1, h1, b, rfl, q⟩ := h
  exact ⟨_, en1, by simp only [eNeg, h1], q⟩
theorem w_eif (h : O2 (t en) fun b en1 => (b = true → O2 (fa en1) Q) ∧ (b = false → O2 (fb en1) Q)) : O2 (eIf t fa fb en) Q := by
  obtain ⟨b, en1, h1, q1, q2⟩ := h
  cases b with
  | true =>
    obtain ⟨c, en2, h2, q⟩ := q1 rfl
    exact ⟨c, en2, by simp only [eIf, h1, h2], q⟩
  | false =>
    obtain ⟨c, en2, h2, q⟩ := q2 rfl
    exact ⟨c, en2, by simp only [eIf, h1, h2], q⟩
theorem w_chain {g g' : D → D → Option D} (h : O2 (fa en) fun x en1 => O2 (fb en1) fun y en2 => O1 (g x y) fun z => ∃ b, z = .bool b ∧ (b = true → O2 (fc en2) fun w en3 => O1 (g' y w) fun u => Q u en3) ∧ (b = false → Q (.bool false) en2)) : O2 (eChain g g' fa fb fc en) Q := by
  obtain ⟨x, en1, h1, y, en2, h2, z, h3, b, rfl, q1, q2⟩ := h
  cases b with
  | true =>
    obtain ⟨w, en3, h4, u, h5, q⟩ := q1 rfl
    exact ⟨u, en3, by simp only [eChain, h1, h2, h3, h4, h5], q⟩
  | false => exact ⟨_, _, by simp only [eChain, h1, h2, h3], q2 rfl⟩
theorem w_anil (q : QL [] en) : O2 (aNil en) QL := ⟨_, _, rfl, q⟩
theorem w_acons (h : O2 (f en) fun d en1 => O2 (g en1) fun ds en2 => QL (d :: ds) en2) : O2 (aCons f g en) QL := by
  obtain ⟨d, en1, h1, ds, en2, h2, q⟩ := h
  exact ⟨_, en2, by simp only [aCons, h1, h2], q⟩
theorem w_tup (h : O2 (g en) fun ds en1 => ds.length ≤ sizeLine ∧ Q (.tuple ds) en1) : O2 (eTup g en) Q := by
  obtain ⟨ds, en1, h1, h2, q⟩ := h
  exact ⟨_, en1, by simp only [eTup, h1, h2, if_true], q⟩
theorem w_elst (h : O2 (g en) fun ds en1 => ds.length ≤ sizeLine ∧ Q (.list ds) en1) : O2 (eLst g en) Q := by
  obtain ⟨ds, en1, h1, h2, q⟩ := h
  exact ⟨_, en1, by simp only [eLst, h1, h2, if_true], q⟩
theorem w_llst (h : O2 (g en) fun ds en1 => ds.length ≤ sizeLine ∧ QL ds en1) : O2 (lLst g en) QL := by
  obtain ⟨ds, en1, h1, h2, q⟩ := h
  exact ⟨_, en1, by simp only [lLst, h1, h2, if_true], q⟩
theorem w_call {k : List D → Option D} (h : O2 (g en) fun ds en1 => O1 (k ds) fun d => Q d en1) : O2 (eCall k g en) Q := by
  obtain ⟨ds, en1, h1, d, h2, q⟩ := h
  exact ⟨_, en1, by simp only [eCall, h1, h2], q⟩
theorem w_lcall {k : List D → Option (List D)} (h : O2 (g en) fun ds en1 => O1 (k ds) fun d => QL d en1) : O2 (lCall k g en) QL := by
  obtain ⟨ds, en1, h1, d, h2, q⟩ := h
  exact ⟨_, en1, by simp only [lCall, h1, h2], q⟩
theorem w_new (h : O2 (l en) fun ds en1 => Q (.list ds) en1) : O2 (eNew l en) Q := by
  obtain ⟨ds, en1, h1, q⟩ := h
  exact ⟨_, en1, by simp only [eNew, h1], q⟩
theorem w_nil (q : QO (.nx en)) : O1 (sNil en) QO := ⟨_, rfl, q⟩
def thenQ (s : FS) (QO : Out → Prop) : Out → Prop
  | .nx en => O1 (s en) QO
  | o => QO o
theorem thenQ_nx (h : O1 (s en) QO) : thenQ s QO (.nx en) := h
theorem thenQ_rt {d : D} (h : QO (.rt d en)) : thenQ s QO (.rt d en) := h
theorem thenQ_rf {d : List D} (h : QO (.rf d en)) : thenQ s QO (.rf d en) := h
theorem w_seq (h : O1 (s en) (thenQ s' QO)) : O1 (sSeq s s' en) QO := by
  obtain ⟨o, h1, q⟩ := h
  cases o with
  | nx en1 =>
    obtain ⟨o, h2, q⟩ := q
    exact ⟨o, by simp only [sSeq, h1, h2], q⟩
  | _ => exact ⟨_, by simp only [sSeq, h1], q⟩
theorem w_drop (h : O2 (f en) fun _ en1 => QO (.nx en1)) : O1 (sDrop f en) QO := by
  obtain ⟨d, en1, h1, q⟩ := h
  exact ⟨_, by simp only [sDrop, h1], q⟩
theorem w_ret (h : O2 (f en) fun d en1 => QO (.rt d en1)) : O1 (sRet f en) QO := by
  obtain ⟨d, en1, h1, q⟩ := h
  exact ⟨_, by simp only [sRet, h1], q⟩
theorem w_retN (q : QO (.rt .none en)) : O1 (sRetN en) QO := ⟨_, rfl, q⟩
theorem w_retF (h : O2 (l en) fun ds en1 => QO (.rf ds en1)) : O1 (sRetF l en) QO := by
  obtain ⟨d, en1, h1, q⟩ := h
  exact ⟨_, by simp only [sRetF, h1], q⟩
theorem w_retO {ds : List D} (e : en[i]? = some (.ow ds)) (hi : i ∉ P) (q : QO (.rf ds (en.set i .un))) : O1 (sRetO P i en) QO := ⟨_, by unfold sRetO; rw [e]; exact if_neg hi, q⟩
theorem w_if (h : O2 (t en) fun b en1 => (b = true → O1 (s en1) QO) ∧ (b = false → O1 (s' en1) QO)) : O1 (sIf t s s' en) QO := by
  obtain ⟨b, en1, h1, q1, q2⟩ := h
  cases b with
  | true =>
    obtain ⟨o, h2, q⟩ := q1 rfl
    exact ⟨o, by simp only [sIf, h1, h2], q⟩
  | false =>
    obtain ⟨o, h2, q⟩ := q2 rfl
    exact ⟨o, by simp only [sIf, h1, h2], q⟩
theorem w_set (h : O2 (f en) fun d en1 => QO (.nx (en1.set i (.va d)))) : O1 (sSet i f en) QO := by
  obtain ⟨d, en1, h1, q⟩ := h
  exact ⟨_, by simp only [sSet, h1], q⟩
theorem w_setN (h : O2 (f en) fun d en1 => QO (.nx (en1.set i (.vn d)))) : O1 (sSetN i f en) QO := by
  obtain ⟨d, en1, h1, q⟩ := h
  exact ⟨_, by simp only [sSetN, h1], q⟩
theorem w_own (h : O2 (l en) fun ds en1 => i < en1.length ∧ QO (.nx (en1.set i (.ow ds)))) : O1 (sOwn i l en) QO := by
  obtain ⟨d, en1, h1, h2, q⟩ := h
  exact ⟨_, by simp only [sOwn, h1, h2, if_true], q⟩
theorem w_asg {k : FG} (h : O2 (f en) fun d en1 => O1 (k d en1) fun en2 => QO (.nx en2)) : O1 (sAsg f k en) QO := by
  obtain ⟨d, en1, h1, en2, h2, q⟩ := h
  exact ⟨_, by simp only [sAsg, h1, h2], q⟩
theorem w_gnm {d : D} (q : QE (en.set i (.va d))) : O1 (gNm i d en) QE := ⟨_, rfl, q⟩
theorem w_gtp {k : FGs} {ds : List D} (hl : ds.length = n) (h : O1 (k ds en) QE) : O1 (gTp n k (.tuple ds) en) QE := by
  obtain ⟨en1, h1, q⟩ := h
  exact ⟨_, by simp only [gTp, hl, if_true, h1], q⟩
theorem w_gsnil (q : QE en) : O1 (gsNil [] en) QE := ⟨_, rfl, q⟩
theorem w_gscons {k : FG} {r : FGs} {d : D} {ds : List D} (h : O1 (k d en) fun en1 => O1 (r ds en1) QE) : O1 (gsCons k r (d :: ds) en) QE := by
  obtain ⟨en1, h1, en2, h2, q⟩ := h
  exact ⟨_, by simp only [gsCons, h1, h2], q⟩
theorem w_app (e : isOw en[i]? = true) (h : O2 (f en) fun d en1 => ∃ ds, en1[i]? = some (.ow ds) ∧ ds.length < sizeLine ∧ QO (.nx (en1.set i (.ow (ds ++ [d]))))) : O1 (sApp i f en) QO := by
  obtain ⟨d, en1, h1, ds, h2, h3, q⟩ := h
  exact ⟨_, by simp only [sApp, e, h1, h2, h3, if_true], q⟩
theorem w_put (h : O2 (fa en) fun d en1 => isOw en1[i]? = true ∧ O2 (fb en1) fun x en2 => ∃ z ds j, x = .int z ∧ en2[i]? = some (.ow ds) ∧ ixN ds.length z = some j ∧ QO (.nx (en2.set i (.ow (ds.set j d))))) : O1 (sPut i fa fb en) QO := by
  obtain ⟨d, en1, h1, h2, x, en2, h3, z, ds, j, rfl, h4, h5, q⟩ := h
  exact ⟨_, by simp only [sPut, h1, h2, h3, h4, h5, if_true], q⟩
theorem w_get (e : isOw en[i]? = true) (h : O2 (f en) fun x en1 => ∃ z ds d, x = .int z ∧ en1[i]? = some (.ow ds) ∧ atI ds z = some d ∧ Q d en1) : O2 (eGet i f en) Q := by
  obtain ⟨x, en1, h1, z, ds, d, rfl, h2, h3, q⟩ := h
  exact ⟨_, _, by simp only [eGet, e, h1, h2, h3, if_true], q⟩
theorem w_getV {d : D} (e : en[i]? = some (.va d)) (h : O2 (f en) fun z en1 => O1 (gIx d z) fun r => Q r en1) : O2 (eGet i f en) Q := by
  obtain ⟨z, en1, h1, r, h2, q⟩ := h
  exact ⟨_, _, by simp only [eGet, isOw, e, eOp, eVarV, h1, h2]; rfl, q⟩
theorem w_lenO {ds : List D} (e : en[i]? = some (.ow ds)) (q : Q (.int ds.length) en) : O2 (eLenO i en) Q := ⟨_, _, by simp only [eLenO, e], q⟩
theorem w_mnil (q : QM [] en) : O2 (mNil en) QM := ⟨_, _, rfl, q⟩
theorem w_mcons (h : O2 (f en) fun d en1 => O2 (gm en1) fun ms en2 => QM (.v d :: ms) en2) : O2 (mCons f gm en) QM := by
  obtain ⟨d, en1, h1, ds, en2, h2, q⟩ := h
  exact ⟨_, en2, by simp only [mCons, h1, h2], q⟩
theorem w_mown (e : isOwnO en[i]? = true) (h : O2 (gm en) fun ms en1 => isOwnO en1[i]? = true ∧ QM (.o i :: ms) en1) : O2 (mOwn i gm en) QM := by
  obtain ⟨ds, en2, h2, h3, q⟩ := h
  exact ⟨_, en2, by simp only [mOwn, e, h2, h3, if_true], q⟩
theorem w_mlend (e : isOw en[i]? = true) (h : O2 (gm en) fun ms en1 => isOw en1[i]? = true ∧ QM (.b i :: ms) en1) : O2 (mLend i gm en) QM := by
  obtain ⟨ds, en2, h2, h3, q⟩ := h
  exact ⟨_, en2, by simp only [mLend, e, h2, h3, if_true], q⟩
theorem w_perm {π : List Nat} (h : O2 (gm en) fun ms en1 => ms.length = m ∧ QM (permL π ms) en1) : O2 (mPerm m π gm en) QM := by
  obtain ⟨ds, en2, h2, h3, q⟩ := h
  exact ⟨_, en2, by simp only [mPerm, h2, h3, if_true], q⟩
theorem w_callF {F : FF} (h : O2 (gm en) fun ms en1 => (handOk P' ms = true ∧ noB ms = true ∧ ms.length = n) ∧ O2 (F (ms.map (mdSl en1))) fun d as' => Q d (putBack ms 0 as' en1)) : O2 (eCallF P' n F gm en) Q := by
  obtain ⟨ms, en1, h1, h2, d, as', h3, q⟩ := h
  exact ⟨_, _, by simp only [eCallF, h1, h2, h3, and_self, if_true], q⟩
theorem w_lcallF {F : FFL} (h : O2 (gm en) fun ms en1 => (handOk P' ms = true ∧ noB ms = true ∧ ms.length = n) ∧ O2 (F (ms.map (mdSl en1))) fun d as' => QL d (putBack ms 0 as' en1)) : O2 (lCallF P' n F gm en) QL := by
  obtain ⟨ms, en1, h1, h2, d, as', h3, q⟩ := h
  exact ⟨_, _, by simp only [lCallF, h1, h2, h3, and_self, if_true], q⟩
theorem w_callB {F : FF} (h : O2 (gm en) fun ms en1 => (noO ms = true ∧ ms.length = n) ∧ O2 (F (ms.map (mdSl en1))) fun d _ => flatD d = true ∧ Q d en1) : O2 (eCallB n F gm en) Q := by
  obtain ⟨ms, en1, h1, h2, d, as', h3, h4, q⟩ := h
  exact ⟨_, _, by simp only [eCallB, h1, h2, h3, h4, and_self, if_true], q⟩
theorem w_callU {F : FF} (h : O2 (g en) fun ds en1 => ds.length = n ∧ O2 (F (ds.map Sl.va)) fun d _ => flatD d = true ∧ Q d en1) : O2 (eCallU n F g en) Q := by
  obtain ⟨ms, en1, h1, h2, d, as', h3, h4, q⟩ := h
  exact ⟨_, _, by simp only [eCallU, h1, h2, h3, h4, if_true], q⟩
def itD : D → Option (List D)
  | .list ds => some ds
  | .tuple ds => some ds
  | _ => none
theorem w_items (h : O2 (f en) fun d en1 => O1 (itD d) fun ds => QL ds en1) : O2 (iItems f en) QL := by
  obtain ⟨d, en1, h1, ds, h2, q⟩ := h
  refine ⟨ds, en1, ?_, q⟩
  cases d <;> first | (cases h2; simp only [iItems, h1]) | cases h2
theorem w_range1 (h : O2 (g en) fun ds en1 => ∃ j, ds = [.int j] ∧ (-(2 ^ 62) ≤ j ∧ j < 2 ^ 62) ∧ QL (rangeD 0 j.toNat) en1) : O2 (iRange1 g en) QL := by
  obtain ⟨ds, en1, h1, j, rfl, h2, q⟩ := h
  exact ⟨_, _, by simp only [iRange1, h1, h2, and_self, if_true], q⟩
theorem w_range2 (h : O2 (g en) fun ds en1 => ∃ i j, ds = [.int i, .int j] ∧ (-(2 ^ 62) ≤ i ∧ i < 2 ^ 62 ∧ -(2 ^ 62) ≤ j ∧ j < 2 ^ 62) ∧ QL (rangeD i (j - i).toNat) en1) : O2 (iRange2 g en) QL := by
  obtain ⟨ds, en1, h1, i, j, rfl, h2, q⟩ := h
  exact ⟨_, _, by simp only [iRange2, h1, h2, and_self, if_true], q⟩
def zpD : List D → Option (List D)
  | [.list xs, .list ys] => some (zipD xs ys)
  | [.tuple xs, .tuple ys] => some (zipD xs ys)
  | _ => none
theorem w_zip (h : O2 (g en) fun ds en1 => O1 (zpD ds) fun es => QL es en1) : O2 (iZipD g en) QL := by
  obtain ⟨ds, en1, h1, es, h2, q⟩ := h
  refine ⟨es, en1, ?_, q⟩
  unfold zpD at h2
  split at h2 <;> first | (cases h2; simp only [iZipD, h1]) | cases h2
theorem w_for {k : FG} (h : O2 (l en) fun ds en1 => O1 (forD (turnD k s) ds en1) QO) : O1 (sFor l k s en) QO := by
  obtain ⟨ds, en1, h1, o, h2, q⟩ := h
  exact ⟨o, by simp only [sFor, h1, h2], q⟩
theorem w_turn {k : FG} {d : D} (h : O1 (k d en) fun en1 => O1 (s en1) QO) : O1 (turnD k s d en) QO := by
  obtain ⟨en1, h1, o, h2, q⟩ := h
  exact ⟨o, by simp only [turnD, h1, h2], q⟩
theorem w_comp {k : FG} {vs : List Nat} (h : O2 (l en) fun ds en1 => O2 (compD k t f vs ds (wipeE en1 vs) []) QL) : O2 (lComp l k t f vs en) QL := by
  obtain ⟨ds, en1, h1, o, en2, h2, q⟩ := h
  exact ⟨o, en2, by simp only [lComp, h1, h2], q⟩
theorem w_onone {QI : Option Int → En → Prop} (q : QI none en) : O2 (oNone en) QI := ⟨_, _, rfl, q⟩
theorem w_osome {QI : Option Int → En → Prop} (h : O2 (f en) fun d en1 => ∃ i, d = .int i ∧ QI (some i) en1) : O2 (oSome f en) QI := by
  obtain ⟨d, en1, h1, i, rfl, q⟩ := h
  exact ⟨_, _, by simp only [oSome, h1], q⟩
theorem w_slice {fl fh : FO} (h : O2 (f en) fun d en1 => O2 (fl en1) fun lo en2 => O2 (fh en2) fun hi en3 => O1 (sliceD d lo hi) fun z => Q z en3) : O2 (eSl f fl fh en) Q := by
  obtain ⟨d, en1, h1, lo, en2, h2, hi, en3, h3, z, h4, q⟩ := h
  exact ⟨_, _, by simp only [eSl, h1, h2, h3, h4], q⟩
theorem w_isi {T : String} (h : O2 (f en) fun d en1 => Q (.bool (isiD d T)) en1) : O2 (eIsi T f en) Q := by
  obtain ⟨d, en1, h1, q⟩ := h
  exact ⟨_, _, by simp only [eIsi, h1], q⟩
theorem w_isi2 {T U : String} (h : O2 (f en) fun d en1 => Q (.bool (isiD d T || isiD d U)) en1) : O2 (eIsi2 T U f en) Q := by
  obtain ⟨d, en1, h1, q⟩ := h
  exact ⟨_, _, by simp only [eIsi2, h1], q⟩
theorem w_typ {neg : Bool} {T : String} (h : O2 (f en) fun d en1 => Q (.bool (if neg then !decide (typD d = T) else decide (typD d = T))) en1) : O2 (eTyp neg T f en) Q := by
  obtain ⟨d, en1, h1, q⟩ := h
  exact ⟨_, _, by simp only [eTyp, h1], q⟩
theorem w_nnew (h : O2 (l en) fun ds en1 => ds.all flatD = true ∧ Q (.list ds) en1) : O2 (nNew l en) Q := by
  obtain ⟨d, en1, h1, h2, q⟩ := h
  exact ⟨_, _, by simp only [nNew, h1, h2, if_true], q⟩
theorem w_nvar {d : D} (e : en[i]? = some (.vn d)) (q : Q d en) : O2 (nVar P i en) Q := ⟨_, _, by simp only [nVar, e], q⟩
theorem w_nvarO {ds : List D} (e : en[i]? = some (.ow ds)) (hi : i ∉ P) (hf : ds.all flatD = true) (q : Q (.list ds) (en.set i (.vn (.list ds)))) : O2 (nVar P i en) Q := ⟨_, _, by simp only [nVar, e]; exact if_pos ⟨hi, hf⟩, q⟩
theorem w_spoil (h : O2 (f en) fun d en1 => ∃ ds, d = .list ds ∧ (ds.all (roomL ds.length) = true ∧ en1.all ownLf = true ∧ isOwnO en1[i]? = false ∧ i < en1.length) ∧ QO (.nx ((en1.map clean).set i .un))) : O1 (sSpoil i f en) QO := by
  obtain ⟨d, en1, h1, ds, rfl, h2, q⟩ := h
  exact ⟨_, by simp only [sSpoil, h1, h2, and_self, if_true], q⟩
theorem w_newD {t : Bool} (hl : i < en.length) (q : QO (.nx (en.set i (.dc t [])))) : O1 (sNewD i t en) QO := ⟨_, by simp only [sNewD, hl, if_true], q⟩
theorem w_putD (h : O2 (fa en) fun d en1 => isDc en1[i]? = true ∧ O2 (fb en1) fun z en2 => ∃ t kvs k, en2[i]? = some (.dc t kvs) ∧ keyD t z = some k ∧ kvs.length < sizeLine ∧ QO (.nx (en2.set i (.dc t (putD kvs k d))))) : O1 (sPutD i fa fb en) QO := by
  obtain ⟨d, en1, h1, h2, z, en2, h3, t, kvs, k, h4, h5, h6, q⟩ := h
  exact ⟨_, by simp only [sPutD, h1, h2, h3, h4, h5, h6, if_true], q⟩
theorem w_getD (e : isDc en[i]? = true) (h : O2 (f en) fun z en1 => ∃ t kvs k d, en1[i]? = some (.dc t kvs) ∧ keyD t z = some k ∧ valD kvs k = some d ∧ Q d en1) : O2 (eGetD i f en) Q := by
  obtain ⟨z, en1, h1, t, kvs, k, d, h2, h3, h4, q⟩ := h
  exact ⟨_, _, by simp only [eGetD, e, h1, h2, h3, h4, if_true], q⟩
theorem w_getDf (e : isDc en[i]? = true) (h : O2 (fa en) fun z en1 => O2 (fb en1) fun y en2 => ∃ t kvs k, en2[i]? = some (.dc t kvs) ∧ keyD t z = some k ∧ Q ((valD kvs k).getD y) en2) : O2 (eGetDf i fa fb en) Q := by
  obtain ⟨z, en1, h1, y, en2, h2, t, kvs, k, h3, h4, q⟩ := h
  exact ⟨_, _, by simp only [eGetDf, e, h1, h2, h3, h4, if_true], q⟩
theorem w_inD {neg : Bool} (h : O2 (fa en) fun z en1 => ∃ t kvs k, en1[i]? = some (.dc t kvs) ∧ keyD t z = some k ∧ Q (.bool (if neg then !(valD kvs k).isSome else (valD kvs k).isSome)) en1) : O2 (eInD neg fa i en) Q := by
  obtain ⟨z, en1, h1, t, kvs, k, h3, h4, q⟩ := h
  exact ⟨_, _, by simp only [eInD, h1, h3, h4], q⟩
theorem w_sortedDK {kvs : DKV} {ns : List Int} (e : en[i]? = some (.dc false kvs)) (h : intKeys kvs = some ns) (q : QL ((sortI ns).map .int) en) : O2 (lSortedDK i en) QL := ⟨_, _, by simp only [lSortedDK, e, h], q⟩
theorem w_uvar {d : D} {QU : D → Prop} (e : en[i]? = some (.va d)) (q : QU d) : O1 (uVar i en) QU := ⟨_, by simp only [uVar, e], q⟩
theorem w_uvarN {d : D} {QU : D → Prop} (e : en[i]? = some (.vn d)) (q : QU d) : O1 (uVar i en) QU := ⟨_, by simp only [uVar, e], q⟩
theorem w_uvarO {d : List D} {QU : D → Prop} (e : en[i]? = some (.ow d)) (q : QU (.list d)) : O1 (uVar i en) QU := ⟨_, by simp only [uVar, e], q⟩
theorem w_ucons {fu : FU} {gu : FUL} {QU : List D → Prop} (h : O1 (fu en) fun d => O1 (gu en) fun ds => QU (d :: ds)) : O1 (ulCons fu gu en) QU := by
  obtain ⟨d, h1, ds, h2, q⟩ := h
  exact ⟨_, by simp only [ulCons, h1, h2], q⟩
theorem w_ulst {gu : FUL} {QU : D → Prop} (h : O1 (gu en) fun ds => ds.length ≤ sizeLine ∧ QU (.list ds)) : O1 (uLst gu en) QU := by
  obtain ⟨ds, h1, h2, q⟩ := h
  exact ⟨_, by simp only [uLst, h1, h2, if_true], q⟩
theorem w_utup {gu : FUL} {QU : D → Prop} (h : O1 (gu en) fun ds => ds.length ≤ sizeLine ∧ QU (.tuple ds)) : O1 (uTup gu en) QU := by
  obtain ⟨ds, h1, h2, q⟩ := h
  exact ⟨_, by simp only [uTup, h1, h2, if_true], q⟩
theorem w_some {α : Type} {a : α} {QU : α → Prop} (q : QU a) : O1 (some a) QU := ⟨_, rfl, q⟩
theorem w_auend {gu : FUL} (h : O1 (gu en) fun ds => QL ds en) : O2 (auEnd gu en) QL := by
  obtain ⟨ds, h1, q⟩ := h
  exact ⟨_, _, by simp only [auEnd, h1], q⟩
theorem w_ii {c : Int → Int → Bool} {k : Int → Int → D} {i j : Int} {QU : D → Prop} (h : c i j = true) (q : QU (k i j)) : O1 (gII c k (.int i) (.int j)) QU := ⟨_, by simp only [gII, h, if_true], q⟩
def fnQ (Q : D → En → Prop) : Out → Prop
  | .rt d en => Q d en
  | .nx en => Q .none en
  | .rf ds en => Q (.list ds) en
  | _ => False
def fnQL (Q : List D → En → Prop) : Out → Prop
  | .rf ds en => Q ds en
  | _ => False
theorem w_fn (m : Nat) {as : En} (h : O1 (s (as ++ List.replicate (m - as.length) .un)) (fnQ Q)) : O2 (fnV m s as) Q := by
  obtain ⟨o, h1, q⟩ := h
  cases o <;> first | exact ⟨_, _, by simp only [fnV, h1], q⟩ | exact q.elim
theorem w_fnL (m : Nat) {as : En} (h : O1 (s (as ++ List.replicate (m - as.length) .un)) (fnQL QL)) : O2 (fnL m s as) QL := by
  obtain ⟨o, h1, q⟩ := h
  cases o <;> first | exact ⟨_, _, by simp only [fnL, h1], q⟩ | exact q.elim
/-- a comprehension over mapped things, each turn of which leaves the slots as they are -/
theorem compD_map {α : Type} {k : FG} {vs : List Nat} {e : α → D} {q : α → Option D} {en0 : En} : ∀ (L : List α) (acc : List D), acc.length + L.length ≤ sizeLine →
    (∀ a ∈ L, O1 (k (e a) en0) fun en1 => O2 (t en1) fun b en2 => (b = false → q a = none ∧ wipeE en2 vs = en0) ∧ (b = true → O2 (f en2) fun y en3 => q a = some y ∧ wipeE en3 vs = en0)) → compD k t f vs (L.map e) en0 acc = some (acc ++ L.filterMap q, en0)
  | [], acc, _, _ => by simp [compD]
  | a :: L, acc, hl, h => by
    obtain ⟨en1, h1, b, en2, h2, q1, q2⟩ := h a (by simp)
    rw [List.map_cons]
    unfold compD
    simp only [h1, h2]
    cases b with
    | false =>
      obtain ⟨q3, q4⟩ := q1 rfl
      simp only
      rw [q4, compD_map L acc (by simp at hl ⊢; omega) fun a ha => h a (List.mem_cons_of_mem _ ha), List.filterMap_cons, q3]
    | true =>
      obtain ⟨y, en3, h3, q3, q4⟩ := q2 rfl
      simp only [h3]
      rw [if_pos (by simp at hl; omega), q4, compD_map L (acc ++ [y]) (by simp at hl ⊢; omega) fun a ha => h a (List.mem_cons_of_mem _ ha), List.filterMap_cons, q3]
      simp
theorem w_compD {α : Type} {k : FG} {vs : List Nat} {e : α → D} (q : α → Option D) {L : List α} (hl : L.length ≤ sizeLine)
    (h : ∀ a ∈ L, O1 (k (e a) en) fun en1 => O2 (t en1) fun b en2 => (b = false → q a = none ∧ wipeE en2 vs = en) ∧ (b = true → O2 (f en2) fun y en3 => q a = some y ∧ wipeE en3 vs = en)) (hq : QL (L.filterMap q) en) : O2 (compD k t f vs (L.map e) en []) QL :=
  ⟨_, _, by rw [compD_map L [] (by simpa using hl) h]; rfl, hq⟩
/-- a walk with an invariant -/
theorem w_forD {α : Type} {body : D → En → Option Out} {e : α → D} (I : Nat → En → Prop) : ∀ (L : List α) (j : Nat) (en : En), I j en → (∀ (i : Nat) (a : α) (en : En), L[i]? = some a → I (j + i) en → O1 (body (e a) en) fun o => ∃ en', o = .nx en' ∧ I (j + i + 1) en') → (∀ en, I (j + L.length) en → QO (.nx en)) → O1 (forD body (L.map e) en) QO
  | [], j, en, h, _, q => ⟨_, rfl, q en h⟩
  | a :: L, j, en, h, hb, q => by
    obtain ⟨o, h1, en1, rfl, h2⟩ := hb 0 a en rfl h
    rw [List.map_cons]
    have ih := w_forD I L (j + 1) en1 h2 (fun i a en e h => by
      have := hb (i + 1) a en (by simpa using e) (by rw [show j + (i + 1) = j + 1 + i by omega]; exact h)
      rw [show j + (i + 1) + 1 = j + 1 + i + 1 by omega] at this
      exact this) (fun en h => q en (by rw [List.length_cons, show j + (L.length + 1) = j + 1 + L.length by omega]; exact h))
    obtain ⟨o, h3, q⟩ := ih
    exact ⟨o, by unfold forD; simp only [h1, h3], q⟩
end

theorem w_geq {d e : D} {QU : D → Prop} (h1 : SeqAt.shaped d = true) (h2 : SeqAt.shaped e = true) (q : QU (.bool (PyData.eqv d e))) : O1 (gEq d e) QU := ⟨_, by simp only [gEq, h1, h2, and_self, if_true], q⟩
theorem w_gne {d e : D} {QU : D → Prop} (h1 : SeqAt.shaped d = true) (h2 : SeqAt.shaped e = true) (q : QU (.bool (!PyData.eqv d e))) : O1 (gNe d e) QU := ⟨_, by simp only [gNe, h1, h2, and_self, if_true], q⟩
theorem w_lenL {xs : List D} {QU : D → Prop} (q : QU (.int xs.length)) : O1 (gLen [.list xs]) QU := ⟨_, rfl, q⟩
theorem w_lenT {xs : List D} {QU : D → Prop} (q : QU (.int xs.length)) : O1 (gLen [.tuple xs]) QU := ⟨_, rfl, q⟩
theorem sz_of {n : Nat} (h : n ≤ 1000) : n ≤ sizeLine := Nat.le_trans h (by decide)
theorem x_bool {b : Bool} {Q : Bool → Prop} (q : Q b) : ∃ b', PyData.bool b = .bool b' ∧ Q b' := ⟨b, rfl, q⟩
theorem x_int {b : Int} {Q : Int → Prop} (q : Q b) : ∃ b', PyData.int b = .int b' ∧ Q b' := ⟨b, rfl, q⟩
theorem x_rng1 {b : Int} {Q : Int → Prop} (q : Q b) : ∃ b', [PyData.int b] = [.int b'] ∧ Q b' := ⟨b, rfl, q⟩
theorem x_rng2 {a b : Int} {Q : Int → Int → Prop} (q : Q a b) : ∃ a' b', [PyData.int a, PyData.int b] = [.int a', .int b'] ∧ Q a' b' := ⟨a, b, rfl, q⟩
theorem x_get {b : Int} {o : Option Sl} {ds : List D} {d : D} {Q : D → Prop} (h1 : o = some (.ow ds)) (h2 : atI ds b = some d) (q : Q d) : ∃ z ds d, PyData.int b = .int z ∧ o = some (.ow ds) ∧ atI ds z = some d ∧ Q d := ⟨b, ds, d, rfl, h1, h2, q⟩
theorem x_put {b : Int} {o : Option Sl} {ds : List D} {j : Nat} {Q : List D → Nat → Prop} (h1 : o = some (.ow ds)) (h2 : ixN ds.length b = some j) (q : Q ds j) : ∃ z ds j, PyData.int b = .int z ∧ o = some (.ow ds) ∧ ixN ds.length z = some j ∧ Q ds j := ⟨b, ds, j, rfl, h1, h2, q⟩
theorem x_app {o : Option Sl} {ds : List D} {Q : List D → Prop} (h1 : o = some (.ow ds)) (q : Q ds) : ∃ ds, o = some (.ow ds) ∧ Q ds := ⟨ds, h1, q⟩
theorem x_isow {o : Option Sl} {Q : Prop} (h1 : isOw o = true) (q : Q) : isOw o = true ∧ Q := ⟨h1, q⟩
theorem x_isowO {o : Option Sl} {Q : Prop} (h1 : isOwnO o = true) (q : Q) : isOwnO o = true ∧ Q := ⟨h1, q⟩
theorem x_isdc {o : Option Sl} {Q : Prop} (h1 : isDc o = true) (q : Q) : isDc o = true ∧ Q := ⟨h1, q⟩
theorem x_lt {i n : Nat} {Q : Prop} (h1 : i < n) (q : Q) : i < n ∧ Q := ⟨h1, q⟩
theorem x_hand {P : List Nat} {ms : List Md} {m n : Nat} {Q : Prop} (h1 : handOk P ms = true) (h2 : noB ms = true) (h3 : m = n) (q : Q) : (handOk P ms = true ∧ noB ms = true ∧ m = n) ∧ Q := ⟨⟨h1, h2, h3⟩, q⟩
theorem x_handB {ms : List Md} {m n : Nat} {Q : Prop} (h2 : noO ms = true) (h3 : m = n) (q : Q) : (noO ms = true ∧ m = n) ∧ Q := ⟨⟨h2, h3⟩, q⟩
theorem x_size {n : Nat} {Q : Prop} (h : n ≤ sizeLine) (q : Q) : n ≤ sizeLine ∧ Q := ⟨h, q⟩
theorem x_len {m n : Nat} {Q : Prop} (h : m = n) (q : Q) : m = n ∧ Q := ⟨h, q⟩
theorem seq_if {t : FT} {s s2 s' : FS} {en : En} {QO : Out → Prop} (h : O1 (sSeq (sIf t s s2) s' en) QO) : O1 (sSeq (sIf t s s2) s' en) QO := h
theorem x_ift {A B : Prop} (h : A) : (true = true → A) ∧ (true = false → B) := ⟨fun _ => h, fun z => nomatch z⟩
theorem x_iff {A B : Prop} (h : B) : (false = true → A) ∧ (false = false → B) := ⟨fun z => (nomatch z), fun _ => h⟩
theorem x_t {b : Bool} {A B : Prop} (e : b = true) (h : A) : (b = true → A) ∧ (b = false → B) := ⟨fun _ => h, fun z => absurd (e.symm.trans z) (by decide)⟩
theorem x_f {b : Bool} {A B : Prop} (e : b = false) (h : B) : (b = true → A) ∧ (b = false → B) := ⟨fun z => absurd (e.symm.trans z) (by decide), fun _ => h⟩
theorem x_tt {A B : Prop} (h : B) : (true = false → A) ∧ (true = true → B) := ⟨fun z => (nomatch z), fun _ => h⟩
theorem x_ff {A B : Prop} (h : A) : (false = false → A) ∧ (false = true → B) := ⟨fun _ => h, fun z => (nomatch z)⟩
/-- the steps, as far as they go -/
theorem st_ {P Q : Prop} (p : P) (h : P → Q := by
    intro p
    repeat (first
      | with_reducible refine w_op ?_
      | with_reducible refine w_var (by with_unfolding_all rfl) ?_
      | with_reducible refine w_varN (by with_unfolding_all rfl) ?_
      | with_reducible refine w_varO (by with_unfolding_all rfl) (by decide) ?_
      | with_reducible refine w_c ?_
      | with_reducible refine w_seq ?_
      | with_reducible refine w_if ?_
      | with_reducible refine w_set ?_
      | with_reducible refine w_bool ?_
      | with_reducible refine w_tru ?_
      | with_reducible refine w_not ?_
      | with_reducible refine w_and ?_
      | with_reducible refine w_or ?_
      | with_reducible refine w_yes ?_
      | with_reducible refine w_eand ?_
      | with_reducible refine w_eor ?_
      | with_reducible refine w_enot ?_
      | with_reducible refine w_eneg ?_
      | with_reducible refine w_eif ?_
      | with_reducible refine w_chain ?_
      | with_reducible refine w_anil ?_
      | with_reducible refine w_acons ?_
      | with_reducible refine w_tup ?_
      | with_reducible refine w_elst ?_
      | with_reducible refine w_llst ?_
      | with_reducible refine w_call ?_
      | with_reducible refine w_lcall ?_
      | with_reducible refine w_new ?_
      | with_reducible refine w_nil ?_
      | with_reducible refine w_drop ?_
      | with_reducible refine w_ret ?_
      | with_reducible refine w_retN ?_
      | with_reducible refine w_retF ?_
      | with_reducible refine w_retO (by with_unfolding_all rfl) (by decide) ?_
      | with_reducible refine w_setN ?_
      | with_reducible refine w_own ?_
      | with_reducible refine w_asg ?_
      | with_reducible refine w_gnm ?_
      | with_reducible refine w_gtp (by with_unfolding_all rfl) ?_
      | with_reducible refine w_gsnil ?_
      | with_reducible refine w_gscons ?_
      | with_reducible refine w_app (by with_unfolding_all rfl) ?_
      | with_reducible refine w_put ?_
      | with_reducible refine w_get (by with_unfolding_all rfl) ?_
      | with_reducible refine w_getV (by with_unfolding_all rfl) ?_
      | with_reducible refine w_lenO (by with_unfolding_all rfl) ?_
      | with_reducible refine w_newD (by (try simp only [List.length_cons, List.length_nil, List.length_set]); with_unfolding_all decide) ?_
      | with_reducible refine w_putD ?_
      | with_reducible refine w_getD (by with_unfolding_all rfl) ?_
      | with_reducible refine w_getDf (by with_unfolding_all rfl) ?_
      | with_reducible refine w_inD ?_
      | with_reducible refine w_mnil ?_
      | with_reducible refine w_mcons ?_
      | with_reducible refine w_mown (by with_unfolding_all rfl) ?_
      | with_reducible refine w_mlend (by with_unfolding_all rfl) ?_
      | with_reducible refine w_perm ?_
      | with_reducible refine w_callF ?_
      | with_reducible refine w_lcallF ?_
      | with_reducible refine w_callB ?_
      | with_reducible refine w_callU ?_
      | with_reducible refine w_items ?_
      | with_reducible refine w_range1 ?_
      | with_reducible refine w_range2 ?_
      | with_reducible refine w_zip ?_
      | with_reducible refine w_for ?_
      | with_reducible refine w_comp ?_
      | with_reducible refine w_onone ?_
      | with_reducible refine w_osome ?_
      | with_reducible refine w_slice ?_
      | with_reducible refine w_isi ?_
      | with_reducible refine w_isi2 ?_
      | with_reducible refine w_typ ?_
      | with_reducible refine w_nnew ?_
      | with_reducible refine w_nvar (by with_unfolding_all rfl) ?_
      | with_reducible refine w_nvarO (by with_unfolding_all rfl) (by decide) ?_ ?_
      | with_reducible refine w_spoil ?_
      | with_reducible refine w_uvar (by with_unfolding_all rfl) ?_
      | with_reducible refine w_uvarN (by with_unfolding_all rfl) ?_
      | with_reducible refine w_uvarO (by with_unfolding_all rfl) ?_
      | with_reducible refine w_ucons ?_
      | with_reducible refine w_ulst ?_
      | with_reducible refine w_utup ?_
      | with_reducible refine w_auend ?_
      | with_reducible refine w_some ?_
      | with_reducible refine thenQ_nx ?_
      | with_reducible refine thenQ_rt ?_
      | with_reducible refine thenQ_rf ?_
      | with_reducible refine w_geq (by with_unfolding_all rfl) (by with_unfolding_all rfl) ?_
      | with_reducible refine w_gne (by with_unfolding_all rfl) (by with_unfolding_all rfl) ?_
      | refine O1.of (x := gAdd _ _) rfl ?_
      | refine w_ii (by with_unfolding_all rfl) ?_
      | refine O1.of (x := gLt _ _) rfl ?_
      | refine O1.of (x := gLe _ _) rfl ?_
      | refine O1.of (x := gInt _) rfl ?_
      | with_reducible refine w_lenL ?_
      | with_reducible refine w_lenT ?_
      | refine O1.of (x := gMax2 _) rfl ?_
      | refine O1.of (x := gMin2 _) rfl ?_
      | refine O1.of (x := gIs _ _) rfl ?_
      | refine O1.of (x := gIsNot _ _) rfl ?_
      | refine O1.of (x := gIsA _ _) rfl ?_
      | refine O1.of (x := gIsNotA _ _) rfl ?_
      | refine O1.of (x := gTupOf _) rfl ?_
      | refine O1.of (x := gListOf _) rfl ?_
      | refine O1.of (x := truD _) rfl ?_
      | refine O1.of (x := itD _) rfl ?_
      | refine O1.of (x := gIx _ _) rfl ?_
      | with_reducible refine x_bool ?_
      | with_reducible refine x_ift ?_
      | with_reducible refine x_iff ?_
      | with_reducible refine x_tt ?_
      | with_reducible refine x_ff ?_
      | with_reducible refine x_int ?_
      | with_reducible refine x_rng1 ?_
      | with_reducible refine x_rng2 ?_
      | with_reducible refine x_get (by with_unfolding_all rfl) (by with_unfolding_all rfl) ?_
      | with_reducible refine x_put (by with_unfolding_all rfl) (by with_unfolding_all rfl) ?_
      | with_reducible refine x_app (by with_unfolding_all rfl) ?_
      | with_reducible refine x_isow (by with_unfolding_all rfl) ?_
      | with_reducible refine x_isowO (by with_unfolding_all rfl) ?_
      | with_reducible refine x_isdc (by with_unfolding_all rfl) ?_
      | with_reducible refine x_lt (by (try simp only [List.length_cons, List.length_nil, List.length_set]); with_unfolding_all decide) ?_
      | with_reducible refine x_hand (by with_unfolding_all rfl) (by with_unfolding_all rfl) (by with_unfolding_all rfl) ?_
      | with_reducible refine x_handB (by with_unfolding_all rfl) (by with_unfolding_all rfl) ?_
      | with_reducible refine x_size (sz_of (by (try simp only [List.length_cons, List.length_nil, List.length_set]); with_unfolding_all decide)) ?_
      | with_reducible refine x_len (by with_unfolding_all rfl) ?_
      | with_reducible refine x_t (by with_unfolding_all decide +kernel) ?_
      | with_reducible refine x_f (by with_unfolding_all decide +kernel) ?_)
    exact p) : Q := h p
/-- .. up to the next if that has something behind it -/
theorem sti_ {P Q : Prop} (p : P) (h : P → Q := by
    intro p
    repeat ((fail_if_success (with_reducible refine seq_if ?_)); (first
      | with_reducible refine w_op ?_
      | with_reducible refine w_var (by with_unfolding_all rfl) ?_
      | with_reducible refine w_varN (by with_unfolding_all rfl) ?_
      | with_reducible refine w_varO (by with_unfolding_all rfl) (by decide) ?_
      | with_reducible refine w_c ?_
      | with_reducible refine w_seq ?_
      | with_reducible refine w_if ?_
      | with_reducible refine w_set ?_
      | with_reducible refine w_bool ?_
      | with_reducible refine w_tru ?_
      | with_reducible refine w_not ?_
      | with_reducible refine w_and ?_
      | with_reducible refine w_or ?_
      | with_reducible refine w_yes ?_
      | with_reducible refine w_eand ?_
      | with_reducible refine w_eor ?_
      | with_reducible refine w_enot ?_
      | with_reducible refine w_eneg ?_
      | with_reducible refine w_eif ?_
      | with_reducible refine w_chain ?_
      | with_reducible refine w_anil ?_
      | with_reducible refine w_acons ?_
      | with_reducible refine w_tup ?_
      | with_reducible refine w_elst ?_
      | with_reducible refine w_llst ?_
      | with_reducible refine w_call ?_
      | with_reducible refine w_lcall ?_
      | with_reducible refine w_new ?_
      | with_reducible refine w_nil ?_
      | with_reducible refine w_drop ?_
      | with_reducible refine w_ret ?_
      | with_reducible refine w_retN ?_
      | with_reducible refine w_retF ?_
      | with_reducible refine w_retO (by with_unfolding_all rfl) (by decide) ?_
      | with_reducible refine w_setN ?_
      | with_reducible refine w_own ?_
      | with_reducible refine w_asg ?_
      | with_reducible refine w_gnm ?_
      | with_reducible refine w_gtp (by with_unfolding_all rfl) ?_
      | with_reducible refine w_gsnil ?_
      | with_reducible refine w_gscons ?_
      | with_reducible refine w_app (by with_unfolding_all rfl) ?_
      | with_reducible refine w_put ?_
      | with_reducible refine w_get (by with_unfolding_all rfl) ?_
      | with_reducible refine w_getV (by with_unfolding_all rfl) ?_
      | with_reducible refine w_lenO (by with_unfolding_all rfl) ?_
      | with_reducible refine w_newD (by (try simp only [List.length_cons, List.length_nil, List.length_set]); with_unfolding_all decide) ?_
      | with_reducible refine w_putD ?_
      | with_reducible refine w_getD (by with_unfolding_all rfl) ?_
      | with_reducible refine w_getDf (by with_unfolding_all rfl) ?_
      | with_reducible refine w_inD ?_
      | with_reducible refine w_mnil ?_
      | with_reducible refine w_mcons ?_
      | with_reducible refine w_mown (by with_unfolding_all rfl) ?_
      | with_reducible refine w_mlend (by with_unfolding_all rfl) ?_
      | with_reducible refine w_perm ?_
      | with_reducible refine w_callF ?_
      | with_reducible refine w_lcallF ?_
      | with_reducible refine w_callB ?_
      | with_reducible refine w_callU ?_
      | with_reducible refine w_items ?_
      | with_reducible refine w_range1 ?_
      | with_reducible refine w_range2 ?_
      | with_reducible refine w_zip ?_
      | with_reducible refine w_for ?_
      | with_reducible refine w_comp ?_
      | with_reducible refine w_onone ?_
      | with_reducible refine w_osome ?_
      | with_reducible refine w_slice ?_
      | with_reducible refine w_isi ?_
      | with_reducible refine w_isi2 ?_
      | with_reducible refine w_typ ?_
      | with_reducible refine w_nnew ?_
      | with_reducible refine w_nvar (by with_unfolding_all rfl) ?_
      | with_reducible refine w_nvarO (by with_unfolding_all rfl) (by decide) ?_ ?_
      | with_reducible refine w_spoil ?_
      | with_reducible refine w_uvar (by with_unfolding_all rfl) ?_
      | with_reducible refine w_uvarN (by with_unfolding_all rfl) ?_
      | with_reducible refine w_uvarO (by with_unfolding_all rfl) ?_
      | with_reducible refine w_ucons ?_
      | with_reducible refine w_ulst ?_
      | with_reducible refine w_utup ?_
      | with_reducible refine w_auend ?_
      | with_reducible refine w_some ?_
      | with_reducible refine thenQ_nx ?_
      | with_reducible refine thenQ_rt ?_
      | with_reducible refine thenQ_rf ?_
      | with_reducible refine w_geq (by with_unfolding_all rfl) (by with_unfolding_all rfl) ?_
      | with_reducible refine w_gne (by with_unfolding_all rfl) (by with_unfolding_all rfl) ?_
      | refine O1.of (x := gAdd _ _) rfl ?_
      | refine w_ii (by with_unfolding_all rfl) ?_
      | refine O1.of (x := gLt _ _) rfl ?_
      | refine O1.of (x := gLe _ _) rfl ?_
      | refine O1.of (x := gInt _) rfl ?_
      | with_reducible refine w_lenL ?_
      | with_reducible refine w_lenT ?_
      | refine O1.of (x := gMax2 _) rfl ?_
      | refine O1.of (x := gMin2 _) rfl ?_
      | refine O1.of (x := gIs _ _) rfl ?_
      | refine O1.of (x := gIsNot _ _) rfl ?_
      | refine O1.of (x := gIsA _ _) rfl ?_
      | refine O1.of (x := gIsNotA _ _) rfl ?_
      | refine O1.of (x := gTupOf _) rfl ?_
      | refine O1.of (x := gListOf _) rfl ?_
      | refine O1.of (x := truD _) rfl ?_
      | refine O1.of (x := itD _) rfl ?_
      | refine O1.of (x := gIx _ _) rfl ?_
      | with_reducible refine x_bool ?_
      | with_reducible refine x_ift ?_
      | with_reducible refine x_iff ?_
      | with_reducible refine x_tt ?_
      | with_reducible refine x_ff ?_
      | with_reducible refine x_int ?_
      | with_reducible refine x_rng1 ?_
      | with_reducible refine x_rng2 ?_
      | with_reducible refine x_get (by with_unfolding_all rfl) (by with_unfolding_all rfl) ?_
      | with_reducible refine x_put (by with_unfolding_all rfl) (by with_unfolding_all rfl) ?_
      | with_reducible refine x_app (by with_unfolding_all rfl) ?_
      | with_reducible refine x_isow (by with_unfolding_all rfl) ?_
      | with_reducible refine x_isowO (by with_unfolding_all rfl) ?_
      | with_reducible refine x_isdc (by with_unfolding_all rfl) ?_
      | with_reducible refine x_lt (by (try simp only [List.length_cons, List.length_nil, List.length_set]); with_unfolding_all decide) ?_
      | with_reducible refine x_hand (by with_unfolding_all rfl) (by with_unfolding_all rfl) (by with_unfolding_all rfl) ?_
      | with_reducible refine x_handB (by with_unfolding_all rfl) (by with_unfolding_all rfl) ?_
      | with_reducible refine x_size (sz_of (by (try simp only [List.length_cons, List.length_nil, List.length_set]); with_unfolding_all decide)) ?_
      | with_reducible refine x_len (by with_unfolding_all rfl) ?_
      | with_reducible refine x_t (by with_unfolding_all decide +kernel) ?_
      | with_reducible refine x_f (by with_unfolding_all decide +kernel) ?_))
    exact p) : Q := h p
section
variable {Pg : Program} {w : World} {K : PySem.W.Frag} {mg : Str → Option Value} {base : Heap}
/-- where a def that calls itself begins: a promise of nothing -/
theorem def_never {x : String} {st : Stmt} {N ps : List Str} {k : Nat} (P : Pl) (F : Nmd K mg x st ps) (S : FnScope N ps (defScope st)) : Def Pg w K mg base x (k + 1) ps (spV P ps.length fun _ => none) :=
  (def_V (P := P) (f := sNever) F S fun _ _ _ _ _ _ _ _ => PSs.weak pss_never fun Dn σ H h => by
    obtain ⟨Bf, ow, en, k, o, hf, q⟩ := h
    cases hf).ofV fun as r _ e => (nomatch e)
end
end VL

namespace VL
open PySem PySem.Spec
open PyProof.Rows L2
/-! ### what the top has written; the law's own head -/
section
variable {K : PySem.W.Frag} {mg : Str → Option Value}
theorem nmd_mk {h : Heap} {x : String} {st : Stmt} {ps : List Str} {f : Addr} {oc : Value} {od an : Option Addr} {osl : Array (Option Value)} {kV doc pm cdv ct : Value} (X : K.In h) (G : h.Ns mainGlobals mg)
    (a : PySem.W.nsIn K mainGlobals x = some (some (.ref f))) (l : K.lookup f = some ⟨oc, od, .func (PySem.W.fnOf x x (defArgs st) (defBody st) (defScope st) .none kV doc pm an cdv ct), osl⟩) (c : PySem.W.codeIn K cdv x = true) (k : PySem.W.keepIn K (.ref f) = true)
    (b : ∀ (kV doc pm : Value) (an : Option Addr) (cdv ct : Value) (us : List Value), us.length = ps.length → bindArgs (PySem.W.fnOf x x (defArgs st) (defBody st) (defScope st) .none kV doc pm an cdv ct) ⟨us, []⟩ = pure (ps.zip us)) : Nmd K mg x st ps :=
  ⟨f, _, PySem.W.mg_of X G a, fun_mk l c k, (fun_mk l c k).binds b⟩
def isLs (o : Obj) : Bool := match o.cls with
  | .type t => t == "list"
  | _ => false
def noLs (K : PySem.W.Frag) : Bool := K.all fun p => !isLs p.2
theorem lookup_mem {α β : Type} [BEq α] [LawfulBEq α] : ∀ {l : List (α × β)} {a : α} {b : β}, l.lookup a = some b → (a, b) ∈ l
  | [], _, _, h => by simp at h
  | (x, y) :: r, a, b, h => by
    rw [List.lookup_cons] at h
    cases e : a == x with
    | true =>
      rw [e] at h
      cases h
      rw [LawfulBEq.eq_of_beq e]
      exact List.mem_cons_self
    | false =>
      rw [e] at h
      exact List.mem_cons_of_mem _ (lookup_mem h)
theorem noLs_sq (h : noLs K = true) {H : Hp} {a : Addr} {xs : List V} (r : SqL K H a xs) : Rd H a (.lst xs) := by
  rcases r with r | ⟨o, its, n, h1, h2, _⟩
  · exact r
  · have := List.all_eq_true.mp h _ (lookup_mem h1)
    unfold isLs at this
    rw [h2] at this
    exact absurd this (by decide)
theorem law_sp {F : FF} (hF : ∀ ns : List Int, ns.length ≤ 63 → O2 (F [.va (.list (ns.map .int))]) fun r _ => r = .bool true) {H : Hp} {a : Addr} {ns : List Int} (hl : ns.length ≤ 63) (r : Rd H a (.lst (ns.map V.int))) {E : XK} {tb : List (Addr × Str)} (ht : LamX.Tabs tb H) :
    spV ⟨[], tb⟩ 1 F [.ref a] H (fun v _ => v = .bl true) E := by
  obtain ⟨d, as', h1, rfl⟩ := hF ns hl
  refine ⟨⟨fun _ => False, fun _ => False⟩, fun _ => none, [.va (.list (ns.map .int))], rfl, ?_, fun i a e => (nomatch e), fun i d e => ?_, .bool true, as', h1, fun v H' _ p => ?_⟩
  · refine ⟨rfl, fun i d e => ?_, fun i d e => ?_, fun i s e f => ?_, fun i a e => (nomatch e), fun i j a e _ => (nomatch e), fun b z => z.elim, fun b z => z.elim, fun i a e => (nomatch e), ht⟩
    · match i, e with
      | 0, e =>
        cases e
        exact ⟨.ref a, rfl, .lst (fun z => z.elim (fun z => z) fun ⟨_, z⟩ => (nomatch z)) r (RpL.ofInts ns)⟩
      | i + 1, e => simp at e
    · match i, e with
      | 0, e => cases e
      | i + 1, e => simp at e
    · match i, e with
      | 0, e => cases e; cases f
      | i + 1, e => simp at e
  · match i, e with
    | 0, e => cases e
    | i + 1, e => simp at e
  · cases p
    rfl
end
theorem law_fn {P : Program} {w : World} {K : PySem.W.Frag} {mg : Str → Option Value} {fa : Addr} {st : Stmt} {k : Nat} {sp : Sp} (N : Nmd K mg "law" st ["script"]) (hmg : mg "law" = some (.ref fa))
    (hb : ∀ (kV doc pm : Value) (an : Option Addr) (cdv ct u : Value), bindArgs (PySem.W.fnOf "law" "law" (defArgs st) (defBody st) (defScope st) .none kV doc pm an cdv ct) ⟨[u], []⟩ = pure [(Str.ofString "script", u)]) (D : ∀ base : Heap, Def P w K mg base "law" k ["script"] sp) :
    ∃ fd : FuncData, (∀ (s : Shared) (u : Value), BindsTo s fd ⟨[u], []⟩ [("script", u)]) ∧ ∀ base : Heap, FnOk P w K mg base CX0 k fa fd ["script"] sp := by
  obtain ⟨f, fd, h1, h2, h3⟩ := N.ex
  obtain ⟨oc, od, kV, doc, pm, an, cdv, ct, osl, rfl, lk, hcd⟩ := h2.ex
  rw [hmg] at h1
  cases h1
  refine ⟨_, fun s u => .of_eq (hb kV doc pm an cdv ct u), fun base => ?_⟩
  obtain ⟨f', fd', g1, g2, g3, g4, oc', od', osl', g5⟩ := (D base).ex
  rw [hmg] at g1
  cases g1
  rw [lk] at g5
  cases g5
  exact g4
theorem law_walk {l : PySem.W.OpenLaw} {q : Program} {loose : List Str} {XP : (Str → Option Value) → Heap → Prop} {YP : World → Heap → Prop} {d : DefRec} {K : Params → PySem.W.Frag} {F : FF} {k : Nat} (hF : ∀ ns : List Int, ns.length ≤ 63 → O2 (F [.va (.list (ns.map .int))]) fun r _ => r = .bool true)
    (hn : l.most = some 63) (hdf : d.params.defaults = []) (hr : Room k callerA) (hY : ∀ (w : World) (h : Heap), YP w h → (K w.params).In h) (hno : ∀ w : World, noLs (K w.params) = true)
    (G : ∀ (w : World) (mg : Str → Option Value) (fa : Addr) (h : Heap), (K w.params).In h → h.Ns mainGlobals mg → mg d.name = some (.ref fa) →
      ∃ fd : FuncData, (∀ (s : Shared) (u : Value), BindsTo s fd ⟨[u], []⟩ [("script", u)]) ∧ ∀ base : Heap, FnOk l.prog w (K w.params) mg base CX0 k fa fd ["script"] (spV ⟨[], []⟩ 1 F)) :
    PySem.W.WalkO q loose XP YP l.row.toRowW d [] (fun f vs => PySem.call f vs) :=
  L2.walk_of (n := 63) (k := k) (x := "script") (CX := fun _ => CX0) (sp := fun _ => spV ⟨[], []⟩ 1 F) hn (by decide) hdf hr hY (fun w mg fa h X N e => let ⟨fd, h1, h2⟩ := G w mg fa h X N e; ⟨fd, h1, fun base _ _ => h2 base⟩)
    (fun w H a ns hl _ hS => law_sp hF hl (noLs_sq (hno w) hS) (fun _ h => nomatch h)) fun _ _ _ _ _ z => z
end VL

namespace G
open PySem PySem.Spec PyProof.Rows L2 VL
def topS (i : Nat) : Stmt := PySem.Challenge.pw_oldestbills_k04_the_line.main.body.getD i (.Pass ⟨0, 0, 0, 0⟩)
abbrev s_is_integer : Stmt := topS 4
abbrev s_is_sum : Stmt := topS 5
abbrev s_has_entry_form : Stmt := topS 6
abbrev s_names_its_bill : Stmt := topS 7
abbrev s_fits_account : Stmt := topS 8
abbrev s_is_index : Stmt := topS 9
abbrev s_is_bill_index : Stmt := topS 10
abbrev s_check_account : Stmt := topS 11
abbrev s_line : Stmt := topS 13
abbrev s_along : Stmt := topS 14
abbrev s_bills_of : Stmt := topS 15
abbrev s_bills_along : Stmt := topS 16
abbrev s_payments_of : Stmt := topS 17
abbrev s_payments_along : Stmt := topS 18
abbrev s__law_filled : Stmt := topS 20
abbrev s__law_pick : Stmt := topS 21
abbrev s__law_is_int : Stmt := topS 22
abbrev s__law_like : Stmt := topS 23
abbrev s__law_frame : Stmt := topS 24
abbrev s__law_slips : Stmt := topS 25
abbrev s__law_named : Stmt := topS 26
abbrev s__law_many : Stmt := topS 27
abbrev s__law_drawn : Stmt := topS 28
abbrev s__law_cellwise : Stmt := topS 29
abbrev s__law_line_right : Stmt := topS 30
abbrev s_law : Stmt := topS 31
/-- what the top has written -/
structure Txt (K : PySem.W.Frag) (mg : Str → Option Value) : Prop where
  z_all : mg "all" = none
  z_bool : mg "bool" = none
  z_int : mg "int" = none
  z_isinstance : mg "isinstance" = none
  z_len : mg "len" = none
  z_list : mg "list" = none
  z_max : mg "max" = none
  z_min : mg "min" = none
  z_range : mg "range" = none
  z_sorted : mg "sorted" = none
  z_str : mg "str" = none
  z_sum : mg "sum" = none
  z_tuple : mg "tuple" = none
  z_type : mg "type" = none
  z_zip : mg "zip" = none
  d_is_integer : Nmd K mg "is_integer" s_is_integer ["value"]
  d_is_sum : Nmd K mg "is_sum" s_is_sum ["value"]
  d_has_entry_form : Nmd K mg "has_entry_form" s_has_entry_form ["value"]
  d_names_its_bill : Nmd K mg "names_its_bill" s_names_its_bill ["entries", "entry"]
  d_fits_account : Nmd K mg "fits_account" s_fits_account ["value"]
  d_is_index : Nmd K mg "is_index" s_is_index ["entries", "value"]
  d_is_bill_index : Nmd K mg "is_bill_index" s_is_bill_index ["entries", "value"]
  d_check_account : Nmd K mg "check_account" s_check_account ["account"]
  d_line : Nmd K mg "line" s_line ["account"]
  d_along : Nmd K mg "along" s_along ["account"]
  d_bills_of : Nmd K mg "bills_of" s_bills_of ["account"]
  d_bills_along : Nmd K mg "bills_along" s_bills_along ["account"]
  d_payments_of : Nmd K mg "payments_of" s_payments_of ["account"]
  d_payments_along : Nmd K mg "payments_along" s_payments_along ["account"]
  d__law_filled : Nmd K mg "_law_filled" s__law_filled ["cell"]
  d__law_pick : Nmd K mg "_law_pick" s__law_pick ["jar", "many"]
  d__law_is_int : Nmd K mg "_law_is_int" s__law_is_int ["thing"]
  d__law_like : Nmd K mg "_law_like" s__law_like ["found", "due"]
  d__law_frame : Nmd K mg "_law_frame" s__law_frame ["jar"]
  d__law_slips : Nmd K mg "_law_slips" s__law_slips ["jar", "many", "tops"]
  d__law_named : Nmd K mg "_law_named" s__law_named ["jar", "rows"]
  d__law_many : Nmd K mg "_law_many" s__law_many ["jar", "upto"]
  d__law_drawn : Nmd K mg "_law_drawn" s__law_drawn ["jar", "upto"]
  d__law_cellwise : Nmd K mg "_law_cellwise" s__law_cellwise ["script"]
  d__law_line_right : Nmd K mg "_law_line_right" s__law_line_right ["acct"]
  d_law : Nmd K mg "law" s_law ["script"]
  k_bills_of_account : Kwd K mg "bills_of" ["account"] ["account"] [0]
  k_line_account : Kwd K mg "line" ["account"] ["account"] [0]
  k_payments_of_account : Kwd K mg "payments_of" ["account"] ["account"] [0]
section
variable {Pg : Program} {w : World} {K : PySem.W.Frag} {mg : Str → Option Value} {base : Heap} {tb : List (Addr × Str)}
theorem sc_is_integer : FnScope ["value"] ["value"] (defScope s_is_integer) := ⟨rfl, rfl, rfl, by decide +kernel, rfl, by decide +kernel, by decide +kernel⟩
def f_is_integer : FS := (sRet (eAnd (eIsi "int" (eVar [] 0)) (eNot (eIsi "bool" (eVar [] 0)))))
theorem ok_is_integer (T : Txt K mg)  : Def Pg w K mg base "is_integer" 1 ["value"] (spV ⟨[], tb⟩ 1 (fnV 1 (f_is_integer ))) :=
  def_V (N := ["value"]) T.d_is_integer sc_is_integer fun fa cdv A outer s H E hr =>
    (vb_one (vs_ret (ve_and (ve_isi (by decide) (by rfl) T.z_isinstance (by rfl) T.z_int (by rfl) (ve_var (i := 0) rfl)) (ve_one (ve_not (ve_isi (by decide) (by rfl) T.z_isinstance (by rfl) T.z_bool (by rfl) (ve_var (i := 0) rfl)))))))
def C_is_integer : FF := fnV 1 (f_is_integer )
theorem dd_is_integer (T : Txt K mg) : Def Pg w K mg base "is_integer" 1 ["value"] (spV ⟨[], tb⟩ 1 C_is_integer) := ok_is_integer T 
theorem sc_is_sum : FnScope ["value"] ["value"] (defScope s_is_sum) := ⟨rfl, rfl, rfl, by decide +kernel, rfl, by decide +kernel, by decide +kernel⟩
def f_is_sum : FS := (sRet (eAnd (eIsi "int" (eVar [] 0)) (eAnd (eNot (eIsi "bool" (eVar [] 0))) (eOp gGe (eVar [] 0) (eC (.int 1))))))
theorem ok_is_sum (T : Txt K mg)  : Def Pg w K mg base "is_sum" 1 ["value"] (spV ⟨[], tb⟩ 1 (fnV 1 (f_is_sum ))) :=
  def_V (N := ["value"]) T.d_is_sum sc_is_sum fun fa cdv A outer s H E hr =>
    (vb_one (vs_ret (ve_and (ve_isi (by decide) (by rfl) T.z_isinstance (by rfl) T.z_int (by rfl) (ve_var (i := 0) rfl)) (ve_and (ve_not (ve_isi (by decide) (by rfl) T.z_isinstance (by rfl) T.z_bool (by rfl) (ve_var (i := 0) rfl))) (ve_one (ve_cmp op_ge ov_ge (ve_var (i := 0) rfl) ve_int (nomark _)))))))
def C_is_sum : FF := fnV 1 (f_is_sum )
theorem dd_is_sum (T : Txt K mg) : Def Pg w K mg base "is_sum" 1 ["value"] (spV ⟨[], tb⟩ 1 C_is_sum) := ok_is_sum T 
theorem sc_along : FnScope ["account", "places", "k", "day", "index"] ["account"] (defScope s_along) := ⟨rfl, rfl, rfl, by decide +kernel, rfl, by decide +kernel, by decide +kernel⟩
def f_along : FS := (sSeq (sSet 1 (eNew (lComp (iRange1 (aCons (eCall gLen (aCons (eVar [] 0) aNil)) aNil)) (gNm 2) (fBool (eOp gNe (eOp gIx (eOp gIx (eVar [] 0) (eVar [] 2)) (eC (.int 0))) (eC (.str (Str.ofString "struck"))))) (eTup (aCons (eOp gIx (eOp gIx (eVar [] 0) (eVar [] 2)) (eC (.int 1))) (aCons (eVar [] 2) aNil))) [2])))
    (sRetF (lComp (iItems (eNew (lCall gSortA (aCons (eVar [] 1) aNil)))) (gTp 2 (gsCons (gNm 3) (gsCons (gNm 4) gsNil))) tYesV (eVar [] 4) [3, 4])))
theorem ok_along (T : Txt K mg)  : Def Pg w K mg base "along" 1 ["account"] (spL ⟨[], tb⟩ 1 (fnL 5 (f_along ))) :=
  def_L (N := ["account", "places", "k", "day", "index"]) T.d_along sc_along fun fa cdv A outer s H E hr =>
    (vb_cons (vs_setLc (i := 1) rfl sc_along.nd rfl rfl (pl_not (by decide)) (sw_true rfl rfl rfl (by decide +kernel)) (vi_range1 (by rfl) T.z_range (va_cons (ve_callB call_len ca_len (by rfl) T.z_len (by decide +kernel) (va_cons (ve_var (i := 0) rfl) va_nil)) va_nil)) (blkOk_by (own := [("k", 2)]) (N := ["account", "places", "k", "day", "index"]) (sc := defScope s_along) (by decide +kernel)) rfl (pl_all (by decide)) (by decide) (fun _ _ _ _ _ => (vg_name (i := 2) sc_along.nd rfl (hP := pl_not (by decide)))) (fun _ _ _ _ _ => (vts_one (vt_cmp (op_neD hr.units) ov_ne (ve_ix ix_seq ov_ix (ve_ix ix_seq ov_ix (ve_var (i := 0) rfl) (ve_var (i := 2) rfl) (fun _ _ => rfl)) ve_int (fun _ _ => rfl)) ve_str (nomark _)))) (fun _ _ _ _ _ => (ve_tup (va_cons (ve_ix ix_seq ov_ix (ve_ix ix_seq ov_ix (ve_var (i := 0) rfl) (ve_var (i := 2) rfl) (fun _ _ => rfl)) ve_int (fun _ _ => rfl)) (va_cons (ve_var (i := 2) rfl) va_nil)))))
      (vb_one (vs_retF (vf_lc rfl sc_along.nd (vi_seq (ve_new (vf_callB (cr_sortA hr.units) ca_sortA (by rfl) T.z_sorted (by decide +kernel) (va_cons (ve_var (i := 1) rfl) va_nil)))) (blkOk_by (own := [("day", 3), ("index", 4)]) (N := ["account", "places", "k", "day", "index"]) (sc := defScope s_along) (by decide +kernel)) rfl (pl_all (by decide)) (by decide) (fun _ _ _ _ _ => (vg_tup rfl (vgs_cons (vg_name (i := 3) sc_along.nd rfl (hP := pl_not (by decide))) (vgs_cons (vg_name (i := 4) sc_along.nd rfl (hP := pl_not (by decide))) vgs_nil)))) (fun _ _ _ _ _ => vts_nil) (fun _ _ _ _ _ => (ve_var (i := 4) rfl))))))
def C_along : FFL := fnL 5 (f_along )
theorem dd_along (T : Txt K mg) : Def Pg w K mg base "along" 1 ["account"] (spL ⟨[], tb⟩ 1 C_along) := ok_along T 
theorem sc__law_filled : FnScope ["cell"] ["cell"] (defScope s__law_filled) := ⟨rfl, rfl, rfl, by decide +kernel, rfl, by decide +kernel, by decide +kernel⟩
def f__law_filled : FS := (sRetF (lLst (aCons (eCall gMax2 (aCons (eC (.int 0)) (aCons (eOp gSub (eVar [] 0) (eOp gPow (eC (.int 10)) (eC (.int 18)))) aNil))) (aCons (eC (.int 0)) (aCons (eOp gMod (eCall gInt (aCons (eVar [] 0) aNil)) (eC (.int 2147483629))) aNil)))))
theorem ok__law_filled (T : Txt K mg)  : Def Pg w K mg base "_law_filled" 1 ["cell"] (spL ⟨[], tb⟩ 1 (fnL 1 (f__law_filled ))) :=
  def_L (N := ["cell"]) T.d__law_filled sc__law_filled fun fa cdv A outer s H E hr =>
    (vb_one (vs_retF (vf_lst (va_cons (ve_callB (call_max2 rfl) ca_max2 (by rfl) T.z_max (by decide +kernel) (va_cons ve_int (va_cons (ve_op op_sub ov_sub (ve_var (i := 0) rfl) (ve_op op_pow ov_pow ve_int ve_int)) va_nil))) (va_cons ve_int (va_cons (ve_op op_mod ov_mod (ve_callTy call_int1 ca_int (by rfl) T.z_int (by decide +kernel) (va_cons (ve_var (i := 0) rfl) va_nil)) ve_int) va_nil))))))
def C_filled : FFL := fnL 1 (f__law_filled )
theorem dd__law_filled (T : Txt K mg) : Def Pg w K mg base "_law_filled" 1 ["cell"] (spL ⟨[], tb⟩ 1 C_filled) := ok__law_filled T 
theorem sc__law_pick : FnScope ["jar", "many", "found", "turn", "big", "stir"] ["jar", "many"] (defScope s__law_pick) := ⟨rfl, rfl, rfl, by decide +kernel, rfl, by decide +kernel, by decide +kernel⟩
def f__law_pick : FS := (sSeq (sPut 0 (eOp gAdd (eGet 0 (eC (.int 1))) (eC (.int 1))) (eC (.int 1)))
    (sSeq (sIf (fBool (eOp gGt (eGet 0 (eC (.int 0))) (eC (.int 1)))) (sSeq (sSet 4 (eGet 0 (eC (.int 0))))
    (sSeq (sPut 0 (eOp gFdiv (eVar [0] 4) (eVar [0] 1)) (eC (.int 0)))
    (sRet (eOp gMod (eCall gInt (aCons (eVar [0] 4) aNil)) (eVar [0] 1))))) sNil)
    (sSeq (sSet 2 (eC (.int 0)))
    (sSeq (sFor (iRange1 (aCons (eOp gAdd (eC (.int 1)) (eOp gFdiv (eCall gLen (aCons (eCall gStr (aCons (eVar [0] 1) aNil)) aNil)) (eC (.int 8)))) aNil)) (gNm 3) (sSeq (sSet 5 (eOp gMod (eCall gInt (aCons (eOp gAdd (eOp gAdd (eOp gAdd (eGet 0 (eC (.int 2))) (eOp gMulI (eOp gMulI (eC (.int 7919)) (eGet 0 (eC (.int 1)))) (eGet 0 (eC (.int 1))))) (eOp gMulI (eC (.int 31)) (eVar [0] 3))) (eC (.int 1))) aNil)) (eC (.int 2147483629))))
    (sSeq (sSet 5 (eOp gMod (eCall gInt (aCons (eOp gAdd (eOp gAdd (eOp gMulI (eVar [0] 5) (eVar [0] 5)) (eOp gMulI (eC (.int 48271)) (eGet 0 (eC (.int 1))))) (eVar [0] 3)) aNil)) (eC (.int 2147483647))))
    (sSeq (sSet 5 (eOp gMod (eCall gInt (aCons (eOp gMulI (eVar [0] 5) (eVar [0] 5)) aNil)) (eC (.int 2147483587))))
    (sSet 2 (eOp gAdd (eOp gMulI (eVar [0] 2) (eC (.int 100000007))) (eOp gFdiv (eVar [0] 5) (eC (.int 8)))))))))
    (sRet (eOp gMod (eCall gInt (aCons (eVar [0] 2) aNil)) (eVar [0] 1)))))))
theorem ok__law_pick (T : Txt K mg)  : Def Pg w K mg base "_law_pick" 1 ["jar", "many"] (spV ⟨[0], tb⟩ 2 (fnV 6 (f__law_pick ))) :=
  def_V (N := ["jar", "many", "found", "turn", "big", "stir"]) T.d__law_pick sc__law_pick fun fa cdv A outer s H E hr =>
    (vb_cons (vs_put (i := 0) rfl (hx := ve_int) (he := (ve_op op_addAll ov_add (ve_get (i := 0) rfl (hx := ve_int) (hs := by intro _ _; rfl)) ve_int)))
      (vb_cons (vs_if (vt_cmp op_gt ov_gt (ve_get (i := 0) rfl (hx := ve_int) (hs := by intro _ _; rfl)) ve_int (nomark _)) (vb_cons (vs_set (i := 4) sc__law_pick.nd rfl (hP := pl_not (by decide)) (he := (ve_get (i := 0) rfl (hx := ve_int) (hs := by intro _ _; rfl))))
      (vb_cons (vs_put (i := 0) rfl (hx := ve_int) (he := (ve_op op_fdivW ov_fdiv (ve_var (i := 4) rfl) (ve_var (i := 1) rfl))))
      (vb_one (vs_ret (ve_op op_mod ov_mod (ve_callTy call_int1 ca_int (by rfl) T.z_int (by decide +kernel) (va_cons (ve_var (i := 4) rfl) va_nil)) (ve_var (i := 1) rfl)))))) vb_nil)
      (vb_cons (vs_set (i := 2) sc__law_pick.nd rfl (hP := pl_not (by decide)) (he := ve_int))
      (vb_cons (vs_for PassesOwn.never rfl (vi_range1 (by rfl) T.z_range (va_cons (ve_op op_addAll ov_add ve_int (ve_op op_fdivW ov_fdiv (ve_callB call_len ca_len (by rfl) T.z_len (by decide +kernel) (va_cons (ve_callTy call_str_int ca_str (by rfl) T.z_str (by decide +kernel) (va_cons (ve_var (i := 1) rfl) va_nil)) va_nil)) ve_int)) va_nil)) (vg_name (i := 3) sc__law_pick.nd rfl (hP := pl_not (by decide))) (vb_cons (vs_set (i := 5) sc__law_pick.nd rfl (hP := pl_not (by decide)) (he := (ve_op op_mod ov_mod (ve_callTy call_int1 ca_int (by rfl) T.z_int (by decide +kernel) (va_cons (ve_op op_addAll ov_add (ve_op op_addAll ov_add (ve_op op_addAll ov_add (ve_get (i := 0) rfl (hx := ve_int) (hs := by intro _ _; rfl)) (ve_op op_mulW ov_mulI (ve_op op_mulW ov_mulI ve_int (ve_get (i := 0) rfl (hx := ve_int) (hs := by intro _ _; rfl))) (ve_get (i := 0) rfl (hx := ve_int) (hs := by intro _ _; rfl)))) (ve_op op_mulW ov_mulI ve_int (ve_var (i := 3) rfl))) ve_int) va_nil)) ve_int)))
      (vb_cons (vs_set (i := 5) sc__law_pick.nd rfl (hP := pl_not (by decide)) (he := (ve_op op_mod ov_mod (ve_callTy call_int1 ca_int (by rfl) T.z_int (by decide +kernel) (va_cons (ve_op op_addAll ov_add (ve_op op_addAll ov_add (ve_op op_mulW ov_mulI (ve_var (i := 5) rfl) (ve_var (i := 5) rfl)) (ve_op op_mulW ov_mulI ve_int (ve_get (i := 0) rfl (hx := ve_int) (hs := by intro _ _; rfl)))) (ve_var (i := 3) rfl)) va_nil)) ve_int)))
      (vb_cons (vs_set (i := 5) sc__law_pick.nd rfl (hP := pl_not (by decide)) (he := (ve_op op_mod ov_mod (ve_callTy call_int1 ca_int (by rfl) T.z_int (by decide +kernel) (va_cons (ve_op op_mulW ov_mulI (ve_var (i := 5) rfl) (ve_var (i := 5) rfl)) va_nil)) ve_int)))
      (vb_one (vs_set (i := 2) sc__law_pick.nd rfl (hP := pl_not (by decide)) (he := (ve_op op_addAll ov_add (ve_op op_mulW ov_mulI (ve_var (i := 2) rfl) ve_int) (ve_op op_fdivW ov_fdiv (ve_var (i := 5) rfl) ve_int)))))))))
      (vb_one (vs_ret (ve_op op_mod ov_mod (ve_callTy call_int1 ca_int (by rfl) T.z_int (by decide +kernel) (va_cons (ve_var (i := 2) rfl) va_nil)) (ve_var (i := 1) rfl))))))))
def C_pick : FF := fnV 6 (f__law_pick )
theorem dd__law_pick (T : Txt K mg) : Def Pg w K mg base "_law_pick" 1 ["jar", "many"] (spV ⟨[0], tb⟩ 2 C_pick) := ok__law_pick T 
theorem sc__law_is_int : FnScope ["thing"] ["thing"] (defScope s__law_is_int) := ⟨rfl, rfl, rfl, by decide +kernel, rfl, by decide +kernel, by decide +kernel⟩
def f__law_is_int : FS := (sRet (eAnd (eIsi "int" (eVar [] 0)) (eNot (eIsi "bool" (eVar [] 0)))))
theorem ok__law_is_int (T : Txt K mg)  : Def Pg w K mg base "_law_is_int" 1 ["thing"] (spV ⟨[], tb⟩ 1 (fnV 1 (f__law_is_int ))) :=
  def_V (N := ["thing"]) T.d__law_is_int sc__law_is_int fun fa cdv A outer s H E hr =>
    (vb_one (vs_ret (ve_and (ve_isi (by decide) (by rfl) T.z_isinstance (by rfl) T.z_int (by rfl) (ve_var (i := 0) rfl)) (ve_one (ve_not (ve_isi (by decide) (by rfl) T.z_isinstance (by rfl) T.z_bool (by rfl) (ve_var (i := 0) rfl)))))))
def C_is_int : FF := fnV 1 (f__law_is_int )
theorem dd__law_is_int (T : Txt K mg) : Def Pg w K mg base "_law_is_int" 1 ["thing"] (spV ⟨[], tb⟩ 1 C_is_int) := ok__law_is_int T 
theorem sc_has_entry_form : FnScope ["value", "word", "day", "much", "bill"] ["value"] (defScope s_has_entry_form) := ⟨rfl, rfl, rfl, by decide +kernel, rfl, by decide +kernel, by decide +kernel⟩
def f_has_entry_form (c_is_integer : FF) (c_is_sum : FF) : FS := (sSeq (sIf (fBool (eTyp true "tuple" (eVar [] 0))) (sRet (eC (.bool false))) sNil)
    (sSeq (sIf (fBool (eOp gEq (eCall gLen (aCons (eVar [] 0) aNil)) (eC (.int 3)))) (sSeq (sAsg (eVar [] 0) (gTp 3 (gsCons (gNm 1) (gsCons (gNm 2) (gsCons (gNm 3) gsNil)))))
    (sRet (eAnd (eOr (eOp gEq (eVar [] 1) (eC (.str (Str.ofString "bill")))) (eOp gEq (eVar [] 1) (eC (.str (Str.ofString "pay"))))) (eAnd (eCallF [] 1 c_is_integer (mCons (eVar [] 2) mNil)) (eCallF [] 1 c_is_sum (mCons (eVar [] 3) mNil)))))) sNil)
    (sSeq (sIf (fBool (eOp gEq (eCall gLen (aCons (eVar [] 0) aNil)) (eC (.int 4)))) (sSeq (sAsg (eVar [] 0) (gTp 4 (gsCons (gNm 1) (gsCons (gNm 2) (gsCons (gNm 3) (gsCons (gNm 4) gsNil))))))
    (sRet (eAnd (eOp gEq (eVar [] 1) (eC (.str (Str.ofString "named")))) (eAnd (eCallF [] 1 c_is_integer (mCons (eVar [] 2) mNil)) (eAnd (eCallF [] 1 c_is_sum (mCons (eVar [] 3) mNil)) (eCallF [] 1 c_is_integer (mCons (eVar [] 4) mNil))))))) sNil)
    (sRet (eAnd (eOp gEq (eCall gLen (aCons (eVar [] 0) aNil)) (eC (.int 1))) (eOp gEq (eOp gIx (eVar [] 0) (eC (.int 0))) (eC (.str (Str.ofString "struck")))))))))
theorem ok_has_entry_form (T : Txt K mg) {c_is_integer : FF} (D_is_integer : Def Pg w K mg base "is_integer" 1 ["value"] (spV ⟨[], tb⟩ 1 c_is_integer)) {c_is_sum : FF} (D_is_sum : Def Pg w K mg base "is_sum" 1 ["value"] (spV ⟨[], tb⟩ 1 c_is_sum)) : Def Pg w K mg base "has_entry_form" 2 ["value"] (spV ⟨[], tb⟩ 1 (fnV 5 (f_has_entry_form c_is_integer c_is_sum))) :=
  def_V (N := ["value", "word", "day", "much", "bill"]) T.d_has_entry_form sc_has_entry_form fun fa cdv A outer s H E hr =>
    (vb_cons (vs_if (vt_typNe (by decide) hr.units (by rfl) T.z_type (by rfl) T.z_tuple (by rfl) (ve_var (i := 0) rfl)) (vb_one (vs_ret ve_bl)) vb_nil)
      (vb_cons (vs_if (vt_cmp (op_eqD hr.units) ov_eq (ve_callB call_len ca_len (by rfl) T.z_len (by decide +kernel) (va_cons (ve_var (i := 0) rfl) va_nil)) ve_int (nomark _)) (vb_cons (vs_asg (ve_var (i := 0) rfl) (vg_tup rfl (vgs_cons (vg_name (i := 1) sc_has_entry_form.nd rfl (hP := pl_not (by decide))) (vgs_cons (vg_name (i := 2) sc_has_entry_form.nd rfl (hP := pl_not (by decide))) (vgs_cons (vg_name (i := 3) sc_has_entry_form.nd rfl (hP := pl_not (by decide))) vgs_nil)))))
      (vb_one (vs_ret (ve_and (ve_or (ve_cmp (op_eqD hr.units) ov_eq (ve_var (i := 1) rfl) ve_str (nomark _)) (ve_one (ve_cmp (op_eqD hr.units) ov_eq (ve_var (i := 1) rfl) ve_str (nomark _)))) (ve_and (ve_call D_is_integer (hr.mono (by decide)) (by rfl) (vm_cons (ve_var (i := 2) rfl) vm_nil)) (ve_one (ve_call D_is_sum (hr.mono (by decide)) (by rfl) (vm_cons (ve_var (i := 3) rfl) vm_nil)))))))) vb_nil)
      (vb_cons (vs_if (vt_cmp (op_eqD hr.units) ov_eq (ve_callB call_len ca_len (by rfl) T.z_len (by decide +kernel) (va_cons (ve_var (i := 0) rfl) va_nil)) ve_int (nomark _)) (vb_cons (vs_asg (ve_var (i := 0) rfl) (vg_tup rfl (vgs_cons (vg_name (i := 1) sc_has_entry_form.nd rfl (hP := pl_not (by decide))) (vgs_cons (vg_name (i := 2) sc_has_entry_form.nd rfl (hP := pl_not (by decide))) (vgs_cons (vg_name (i := 3) sc_has_entry_form.nd rfl (hP := pl_not (by decide))) (vgs_cons (vg_name (i := 4) sc_has_entry_form.nd rfl (hP := pl_not (by decide))) vgs_nil))))))
      (vb_one (vs_ret (ve_and (ve_cmp (op_eqD hr.units) ov_eq (ve_var (i := 1) rfl) ve_str (nomark _)) (ve_and (ve_call D_is_integer (hr.mono (by decide)) (by rfl) (vm_cons (ve_var (i := 2) rfl) vm_nil)) (ve_and (ve_call D_is_sum (hr.mono (by decide)) (by rfl) (vm_cons (ve_var (i := 3) rfl) vm_nil)) (ve_one (ve_call D_is_integer (hr.mono (by decide)) (by rfl) (vm_cons (ve_var (i := 4) rfl) vm_nil))))))))) vb_nil)
      (vb_one (vs_ret (ve_and (ve_cmp (op_eqD hr.units) ov_eq (ve_callB call_len ca_len (by rfl) T.z_len (by decide +kernel) (va_cons (ve_var (i := 0) rfl) va_nil)) ve_int (nomark _)) (ve_one (ve_cmp (op_eqD hr.units) ov_eq (ve_ix ix_seq ov_ix (ve_var (i := 0) rfl) ve_int (fun _ _ => rfl)) ve_str (nomark _)))))))))
def C_has_entry_form : FF := fnV 5 (f_has_entry_form C_is_integer C_is_sum)
theorem dd_has_entry_form (T : Txt K mg) : Def Pg w K mg base "has_entry_form" 2 ["value"] (spV ⟨[], tb⟩ 1 C_has_entry_form) := ok_has_entry_form T (dd_is_integer T) (dd_is_sum T)
theorem sc_is_index : FnScope ["entries", "value"] ["entries", "value"] (defScope s_is_index) := ⟨rfl, rfl, rfl, by decide +kernel, rfl, by decide +kernel, by decide +kernel⟩
def f_is_index (c_is_integer : FF) : FS := (sRet (eAnd (eCallF [] 1 c_is_integer (mCons (eVar [] 1) mNil)) (eAnd (eChain gLe gLt (eC (.int 0)) (eVar [] 1) (eCall gLen (aCons (eVar [] 0) aNil))) (eOp gNe (eOp gIx (eOp gIx (eVar [] 0) (eVar [] 1)) (eC (.int 0))) (eC (.str (Str.ofString "struck")))))))
theorem ok_is_index (T : Txt K mg) {c_is_integer : FF} (D_is_integer : Def Pg w K mg base "is_integer" 1 ["value"] (spV ⟨[], tb⟩ 1 c_is_integer)) : Def Pg w K mg base "is_index" 2 ["entries", "value"] (spV ⟨[], tb⟩ 2 (fnV 2 (f_is_index c_is_integer))) :=
  def_V (N := ["entries", "value"]) T.d_is_index sc_is_index fun fa cdv A outer s H E hr =>
    (vb_one (vs_ret (ve_and (ve_call D_is_integer (hr.mono (by decide)) (by rfl) (vm_cons (ve_var (i := 1) rfl) vm_nil)) (ve_and (ve_chain op_le (op_ltAll hr.units0) ov_le ov_lt ve_int (ve_var (i := 1) rfl) (ve_callB call_len ca_len (by rfl) T.z_len (by decide +kernel) (va_cons (ve_var (i := 0) rfl) va_nil))) (ve_one (ve_cmp (op_neD hr.units) ov_ne (ve_ix ix_seq ov_ix (ve_ix ix_seq ov_ix (ve_var (i := 0) rfl) (ve_var (i := 1) rfl) (fun _ _ => rfl)) ve_int (fun _ _ => rfl)) ve_str (nomark _)))))))
def C_is_index : FF := fnV 2 (f_is_index C_is_integer)
theorem dd_is_index (T : Txt K mg) : Def Pg w K mg base "is_index" 2 ["entries", "value"] (spV ⟨[], tb⟩ 2 C_is_index) := ok_is_index T (dd_is_integer T)
theorem sc_bills_along : FnScope ["account", "index"] ["account"] (defScope s_bills_along) := ⟨rfl, rfl, rfl, by decide +kernel, rfl, by decide +kernel, by decide +kernel⟩
def f_bills_along (c_along : FFL) : FS := (sRetF (lComp (iItems (eNew (lCallF [] 1 c_along (mCons (eVar [] 0) mNil)))) (gNm 1) (fBool (eOp gEq (eOp gIx (eOp gIx (eVar [] 0) (eVar [] 1)) (eC (.int 0))) (eC (.str (Str.ofString "bill"))))) (eVar [] 1) [1]))
theorem ok_bills_along (T : Txt K mg) {c_along : FFL} (D_along : Def Pg w K mg base "along" 1 ["account"] (spL ⟨[], tb⟩ 1 c_along)) : Def Pg w K mg base "bills_along" 2 ["account"] (spL ⟨[], tb⟩ 1 (fnL 2 (f_bills_along c_along))) :=
  def_L (N := ["account", "index"]) T.d_bills_along sc_bills_along fun fa cdv A outer s H E hr =>
    (vb_one (vs_retF (vf_lc rfl sc_bills_along.nd (vi_seq (ve_new (vf_call D_along (hr.mono (by decide)) (by rfl) (vm_cons (ve_var (i := 0) rfl) vm_nil)))) (blkOk_by (own := [("index", 1)]) (N := ["account", "index"]) (sc := defScope s_bills_along) (by decide +kernel)) rfl (pl_all (by decide)) (by decide) (fun _ _ _ _ _ => (vg_name (i := 1) sc_bills_along.nd rfl (hP := pl_not (by decide)))) (fun _ _ _ _ _ => (vts_one (vt_cmp (op_eqD hr.units) ov_eq (ve_ix ix_seq ov_ix (ve_ix ix_seq ov_ix (ve_var (i := 0) rfl) (ve_var (i := 1) rfl) (fun _ _ => rfl)) ve_int (fun _ _ => rfl)) ve_str (nomark _)))) (fun _ _ _ _ _ => (ve_var (i := 1) rfl)))))
def C_bills_along : FFL := fnL 2 (f_bills_along C_along)
theorem dd_bills_along (T : Txt K mg) : Def Pg w K mg base "bills_along" 2 ["account"] (spL ⟨[], tb⟩ 1 C_bills_along) := ok_bills_along T (dd_along T)
theorem sc_payments_along : FnScope ["account", "index"] ["account"] (defScope s_payments_along) := ⟨rfl, rfl, rfl, by decide +kernel, rfl, by decide +kernel, by decide +kernel⟩
def f_payments_along (c_along : FFL) : FS := (sRetF (lComp (iItems (eNew (lCallF [] 1 c_along (mCons (eVar [] 0) mNil)))) (gNm 1) (fBool (eOp gNe (eOp gIx (eOp gIx (eVar [] 0) (eVar [] 1)) (eC (.int 0))) (eC (.str (Str.ofString "bill"))))) (eVar [] 1) [1]))
theorem ok_payments_along (T : Txt K mg) {c_along : FFL} (D_along : Def Pg w K mg base "along" 1 ["account"] (spL ⟨[], tb⟩ 1 c_along)) : Def Pg w K mg base "payments_along" 2 ["account"] (spL ⟨[], tb⟩ 1 (fnL 2 (f_payments_along c_along))) :=
  def_L (N := ["account", "index"]) T.d_payments_along sc_payments_along fun fa cdv A outer s H E hr =>
    (vb_one (vs_retF (vf_lc rfl sc_payments_along.nd (vi_seq (ve_new (vf_call D_along (hr.mono (by decide)) (by rfl) (vm_cons (ve_var (i := 0) rfl) vm_nil)))) (blkOk_by (own := [("index", 1)]) (N := ["account", "index"]) (sc := defScope s_payments_along) (by decide +kernel)) rfl (pl_all (by decide)) (by decide) (fun _ _ _ _ _ => (vg_name (i := 1) sc_payments_along.nd rfl (hP := pl_not (by decide)))) (fun _ _ _ _ _ => (vts_one (vt_cmp (op_neD hr.units) ov_ne (ve_ix ix_seq ov_ix (ve_ix ix_seq ov_ix (ve_var (i := 0) rfl) (ve_var (i := 1) rfl) (fun _ _ => rfl)) ve_int (fun _ _ => rfl)) ve_str (nomark _)))) (fun _ _ _ _ _ => (ve_var (i := 1) rfl)))))
def C_payments_along : FFL := fnL 2 (f_payments_along C_along)
theorem dd_payments_along (T : Txt K mg) : Def Pg w K mg base "payments_along" 2 ["account"] (spL ⟨[], tb⟩ 1 C_payments_along) := ok_payments_along T (dd_along T)
theorem sc__law_frame : FnScope ["jar", "spot", "lows", "spans"] ["jar"] (defScope s__law_frame) := ⟨rfl, rfl, rfl, by decide +kernel, rfl, by decide +kernel, by decide +kernel⟩
def f__law_frame (c__law_pick : FF) : FS := (sSeq (sSet 1 (eCallF [0] 2 c__law_pick (mOwn 0 (mCons (eC (.int 7)) mNil))))
    (sSeq (sSet 2 (eLst (aCons (eC (.int 0)) (aCons (eC (.int 0)) (aCons (eNeg (eC (.int 3))) (aCons (eC (.int 999990)) (aCons (eNeg (eC (.int 999999))) (aCons (eC (.int 5)) (aCons (eNeg (eC (.int 20))) aNil)))))))))
    (sSeq (sSet 3 (eLst (aCons (eC (.int 1)) (aCons (eC (.int 3)) (aCons (eC (.int 8)) (aCons (eC (.int 8)) (aCons (eC (.int 1999999)) (aCons (eC (.int 30)) (aCons (eC (.int 40)) aNil)))))))))
    (sRet (eTup (aCons (eOp gIx (eVar [0] 2) (eVar [0] 1)) (aCons (eOp gIx (eVar [0] 3) (eVar [0] 1)) aNil)))))))
theorem ok__law_frame (T : Txt K mg) {c__law_pick : FF} (D__law_pick : Def Pg w K mg base "_law_pick" 1 ["jar", "many"] (spV ⟨[0], tb⟩ 2 c__law_pick)) : Def Pg w K mg base "_law_frame" 2 ["jar"] (spV ⟨[0], tb⟩ 1 (fnV 4 (f__law_frame c__law_pick))) :=
  def_V (N := ["jar", "spot", "lows", "spans"]) T.d__law_frame sc__law_frame fun fa cdv A outer s H E hr =>
    (vb_cons (vs_set (i := 1) sc__law_frame.nd rfl (hP := pl_not (by decide)) (he := (ve_call D__law_pick (hr.mono (by decide)) (by rfl) (vm_own (i := 0) rfl (hr := (vm_cons ve_int vm_nil))))))
      (vb_cons (vs_set (i := 2) sc__law_frame.nd rfl (hP := pl_not (by decide)) (he := (ve_lst (va_cons ve_int (va_cons ve_int (va_cons (ve_neg ve_int) (va_cons ve_int (va_cons (ve_neg ve_int) (va_cons ve_int (va_cons (ve_neg ve_int) va_nil))))))))))
      (vb_cons (vs_set (i := 3) sc__law_frame.nd rfl (hP := pl_not (by decide)) (he := (ve_lst (va_cons ve_int (va_cons ve_int (va_cons ve_int (va_cons ve_int (va_cons ve_int (va_cons ve_int (va_cons ve_int va_nil))))))))))
      (vb_one (vs_ret (ve_tup (va_cons (ve_ix ix_seq ov_ix (ve_var (i := 2) rfl) (ve_var (i := 1) rfl) (fun _ _ => rfl)) (va_cons (ve_ix ix_seq ov_ix (ve_var (i := 3) rfl) (ve_var (i := 1) rfl) (fun _ _ => rfl)) va_nil))))))))
def C_frame : FF := fnV 4 (f__law_frame C_pick)
theorem dd__law_frame (T : Txt K mg) : Def Pg w K mg base "_law_frame" 2 ["jar"] (spV ⟨[0], tb⟩ 1 C_frame) := ok__law_frame T (dd__law_pick T)
theorem sc__law_named : FnScope ["jar", "rows", "made", "spot", "debts", "at"] ["jar", "rows"] (defScope s__law_named) := ⟨rfl, rfl, rfl, by decide +kernel, rfl, by decide +kernel, by decide +kernel⟩
def f__law_named (c__law_pick : FF) : FS := (sSeq (sOwn 2 (lCall gListOf (aCons (eVar [0] 1) aNil)))
    (sSeq (sFor (iRange1 (aCons (eLenO 2) aNil)) (gNm 3) (sIf (fAnd (fBool (eOp gEq (eOp gIx (eGet 2 (eVar [0] 3)) (eC (.int 0))) (eC (.str (Str.ofString "pay"))))) (fBool (eOp gEq (eCallF [0] 2 c__law_pick (mOwn 0 (mCons (eC (.int 3)) mNil))) (eC (.int 1))))) (sSeq (sSet 4 (eNew (lComp (iRange1 (aCons (eLenO 2) aNil)) (gNm 5) (fAnd (fBool (eOp gEq (eOp gIx (eGet 2 (eVar [0] 5)) (eC (.int 0))) (eC (.str (Str.ofString "bill"))))) (fBool (eOp gLe (eOp gIx (eGet 2 (eVar [0] 5)) (eC (.int 1))) (eOp gIx (eGet 2 (eVar [0] 3)) (eC (.int 1)))))) (eVar [0] 5) [5])))
    (sIf (fBool (eOp gNe (eVar [0] 4) (eLst aNil))) (sPut 2 (eTup (aCons (eC (.str (Str.ofString "named"))) (aCons (eOp gIx (eGet 2 (eVar [0] 3)) (eC (.int 1))) (aCons (eOp gIx (eGet 2 (eVar [0] 3)) (eC (.int 2))) (aCons (eOp gIx (eVar [0] 4) (eCallF [0] 2 c__law_pick (mOwn 0 (mCons (eCall gLen (aCons (eVar [0] 4) aNil)) mNil)))) aNil))))) (eVar [0] 3)) sNil)) sNil))
    (sRet (eCall gTupOf (aCons (eVar [0] 2) aNil)))))
theorem ok__law_named (T : Txt K mg) {c__law_pick : FF} (D__law_pick : Def Pg w K mg base "_law_pick" 1 ["jar", "many"] (spV ⟨[0], tb⟩ 2 c__law_pick)) : Def Pg w K mg base "_law_named" 2 ["jar", "rows"] (spV ⟨[0], tb⟩ 2 (fnV 6 (f__law_named c__law_pick))) :=
  def_V (N := ["jar", "rows", "made", "spot", "debts", "at"]) T.d__law_named sc__law_named fun fa cdv A outer s H E hr =>
    (vb_cons (vs_own (i := 2) sc__law_named.nd rfl (hP := pl_not (by decide)) (he := (vf_callTy call_list_of ca_list (by rfl) T.z_list (by decide +kernel) (va_cons (ve_var (i := 1) rfl) va_nil))))
      (vb_cons (vs_for PassesOwn.never rfl (vi_range1 (by rfl) T.z_range (va_cons (ve_lenO (i := 2) rfl (hg := by rfl) (hm := T.z_len)) va_nil)) (vg_name (i := 3) sc__law_named.nd rfl (hP := pl_not (by decide))) (vb_one (vs_if (vt_bop (vw_and (vt_cmp (op_eqD hr.units) ov_eq (ve_ix ix_seq ov_ix (ve_get (i := 2) rfl (hx := (ve_var (i := 3) rfl)) (hs := by intro _ _; rfl)) ve_int (fun _ _ => rfl)) ve_str (nomark _)) (vw_and1 (vt_cmp (op_eqD hr.units) ov_eq (ve_call D__law_pick (hr.mono (by decide)) (by rfl) (vm_own (i := 0) rfl (hr := (vm_cons ve_int vm_nil)))) ve_int (nomark _))))) (vb_cons (vs_setLc (i := 4) rfl sc__law_named.nd rfl rfl (pl_not (by decide)) (sw_true rfl rfl rfl (by decide +kernel)) (vi_range1 (by rfl) T.z_range (va_cons (ve_lenO (i := 2) rfl (hg := by rfl) (hm := T.z_len)) va_nil)) (blkOk_by (own := [("at", 5)]) (N := ["jar", "rows", "made", "spot", "debts", "at"]) (sc := defScope s__law_named) (by decide +kernel)) rfl (pl_all (by decide)) (by decide) (fun _ _ _ _ _ => (vg_name (i := 5) sc__law_named.nd rfl (hP := pl_not (by decide)))) (fun _ _ _ _ _ => (vts_one (vt_bop (vw_and (vt_cmp (op_eqD hr.units) ov_eq (ve_ix ix_seq ov_ix (ve_get (i := 2) rfl (hx := (ve_var (i := 5) rfl)) (hs := by intro _ _; rfl)) ve_int (fun _ _ => rfl)) ve_str (nomark _)) (vw_and1 (vt_cmp op_le ov_le (ve_ix ix_seq ov_ix (ve_get (i := 2) rfl (hx := (ve_var (i := 5) rfl)) (hs := by intro _ _; rfl)) ve_int (fun _ _ => rfl)) (ve_ix ix_seq ov_ix (ve_get (i := 2) rfl (hx := (ve_var (i := 3) rfl)) (hs := by intro _ _; rfl)) ve_int (fun _ _ => rfl)) (nomark _))))))) (fun _ _ _ _ _ => (ve_var (i := 5) rfl)))
      (vb_one (vs_if (vt_cmp (op_neD hr.units) ov_ne (ve_var (i := 4) rfl) (ve_lst va_nil) (nomark _)) (vb_one (vs_put (i := 2) rfl (hx := (ve_var (i := 3) rfl)) (he := (ve_tup (va_cons ve_str (va_cons (ve_ix ix_seq ov_ix (ve_get (i := 2) rfl (hx := (ve_var (i := 3) rfl)) (hs := by intro _ _; rfl)) ve_int (fun _ _ => rfl)) (va_cons (ve_ix ix_seq ov_ix (ve_get (i := 2) rfl (hx := (ve_var (i := 3) rfl)) (hs := by intro _ _; rfl)) ve_int (fun _ _ => rfl)) (va_cons (ve_ix ix_seq ov_ix (ve_var (i := 4) rfl) (ve_call D__law_pick (hr.mono (by decide)) (by rfl) (vm_own (i := 0) rfl (hr := (vm_cons (ve_callB call_len ca_len (by rfl) T.z_len (by decide +kernel) (va_cons (ve_var (i := 4) rfl) va_nil)) vm_nil)))) (fun _ _ => rfl)) va_nil)))))))) vb_nil))) vb_nil)))
      (vb_one (vs_ret (ve_callTy call_tuple_of ca_tuple (by rfl) T.z_tuple (by decide +kernel) (va_cons (ve_var (i := 2) rfl) va_nil))))))
def C_named : FF := fnV 6 (f__law_named C_pick)
theorem dd__law_named (T : Txt K mg) : Def Pg w K mg base "_law_named" 2 ["jar", "rows"] (spV ⟨[0], tb⟩ 2 C_named) := ok__law_named T (dd__law_pick T)
theorem sc__law_many : FnScope ["jar", "upto"] ["jar", "upto"] (defScope s__law_many) := ⟨rfl, rfl, rfl, by decide +kernel, rfl, by decide +kernel, by decide +kernel⟩
def f__law_many (c__law_pick : FF) : FS := (sSeq (sIf (fBool (eOp gEq (eCallF [0] 2 c__law_pick (mOwn 0 (mCons (eC (.int 4)) mNil))) (eC (.int 1)))) (sRet (eCallF [0] 2 c__law_pick (mOwn 0 (mCons (eOp gAdd (eVar [0] 1) (eC (.int 1))) mNil)))) sNil)
    (sRet (eCall gMin2 (aCons (eVar [0] 1) (aCons (eOp gIx (eLst (aCons (eC (.int 0)) (aCons (eC (.int 3)) (aCons (eC (.int 4)) (aCons (eC (.int 5)) (aCons (eC (.int 6)) (aCons (eC (.int 7)) (aCons (eC (.int 8)) (aCons (eC (.int 10)) aNil))))))))) (eCallF [0] 2 c__law_pick (mOwn 0 (mCons (eC (.int 8)) mNil)))) aNil)))))
theorem ok__law_many (T : Txt K mg) {c__law_pick : FF} (D__law_pick : Def Pg w K mg base "_law_pick" 1 ["jar", "many"] (spV ⟨[0], tb⟩ 2 c__law_pick)) : Def Pg w K mg base "_law_many" 2 ["jar", "upto"] (spV ⟨[0], tb⟩ 2 (fnV 2 (f__law_many c__law_pick))) :=
  def_V (N := ["jar", "upto"]) T.d__law_many sc__law_many fun fa cdv A outer s H E hr =>
    (vb_cons (vs_if (vt_cmp (op_eqD hr.units) ov_eq (ve_call D__law_pick (hr.mono (by decide)) (by rfl) (vm_own (i := 0) rfl (hr := (vm_cons ve_int vm_nil)))) ve_int (nomark _)) (vb_one (vs_ret (ve_call D__law_pick (hr.mono (by decide)) (by rfl) (vm_own (i := 0) rfl (hr := (vm_cons (ve_op op_addAll ov_add (ve_var (i := 1) rfl) ve_int) vm_nil)))))) vb_nil)
      (vb_one (vs_ret (ve_callB (call_min2 rfl) ca_min2 (by rfl) T.z_min (by decide +kernel) (va_cons (ve_var (i := 1) rfl) (va_cons (ve_ix ix_seq ov_ix (ve_lst (va_cons ve_int (va_cons ve_int (va_cons ve_int (va_cons ve_int (va_cons ve_int (va_cons ve_int (va_cons ve_int (va_cons ve_int va_nil))))))))) (ve_call D__law_pick (hr.mono (by decide)) (by rfl) (vm_own (i := 0) rfl (hr := (vm_cons ve_int vm_nil)))) (fun _ _ => rfl)) va_nil))))))
def C_many : FF := fnV 2 (f__law_many C_pick)
theorem dd__law_many (T : Txt K mg) : Def Pg w K mg base "_law_many" 2 ["jar", "upto"] (spV ⟨[0], tb⟩ 2 C_many) := ok__law_many T (dd__law_pick T)
theorem sc_is_bill_index : FnScope ["entries", "value"] ["entries", "value"] (defScope s_is_bill_index) := ⟨rfl, rfl, rfl, by decide +kernel, rfl, by decide +kernel, by decide +kernel⟩
def f_is_bill_index (c_is_index : FF) : FS := (sRet (eAnd (eCallF [] 2 c_is_index (mCons (eVar [] 0) (mCons (eVar [] 1) mNil))) (eOp gEq (eOp gIx (eOp gIx (eVar [] 0) (eVar [] 1)) (eC (.int 0))) (eC (.str (Str.ofString "bill"))))))
theorem ok_is_bill_index (T : Txt K mg) {c_is_index : FF} (D_is_index : Def Pg w K mg base "is_index" 2 ["entries", "value"] (spV ⟨[], tb⟩ 2 c_is_index)) : Def Pg w K mg base "is_bill_index" 3 ["entries", "value"] (spV ⟨[], tb⟩ 2 (fnV 2 (f_is_bill_index c_is_index))) :=
  def_V (N := ["entries", "value"]) T.d_is_bill_index sc_is_bill_index fun fa cdv A outer s H E hr =>
    (vb_one (vs_ret (ve_and (ve_call D_is_index (hr.mono (by decide)) (by rfl) (vm_cons (ve_var (i := 0) rfl) (vm_cons (ve_var (i := 1) rfl) vm_nil))) (ve_one (ve_cmp (op_eqD hr.units) ov_eq (ve_ix ix_seq ov_ix (ve_ix ix_seq ov_ix (ve_var (i := 0) rfl) (ve_var (i := 1) rfl) (fun _ _ => rfl)) ve_int (fun _ _ => rfl)) ve_str (nomark _))))))
def C_is_bill_index : FF := fnV 2 (f_is_bill_index C_is_index)
theorem dd_is_bill_index (T : Txt K mg) : Def Pg w K mg base "is_bill_index" 3 ["entries", "value"] (spV ⟨[], tb⟩ 2 C_is_bill_index) := ok_is_bill_index T (dd_is_index T)
theorem sc__law_slips : FnScope ["jar", "many", "tops", "low", "span", "top", "mixed", "rows", "turn", "word", "slip"] ["jar", "many", "tops"] (defScope s__law_slips) := ⟨rfl, rfl, rfl, by decide +kernel, rfl, by decide +kernel, by decide +kernel⟩
def f__law_slips (c__law_frame : FF) (c__law_pick : FF) : FS := (sSeq (sAsg (eCallF [0] 1 c__law_frame (mOwn 0 mNil)) (gTp 2 (gsCons (gNm 3) (gsCons (gNm 4) gsNil))))
    (sSeq (sSet 5 (eOp gIx (eVar [0] 2) (eCallF [0] 2 c__law_pick (mOwn 0 (mCons (eCall gLen (aCons (eVar [0] 2) aNil)) mNil)))))
    (sSeq (sSet 6 (eOp gEq (eCallF [0] 2 c__law_pick (mOwn 0 (mCons (eC (.int 4)) mNil))) (eC (.int 1))))
    (sSeq (sOwn 7 (lLst aNil))
    (sSeq (sFor (iRange1 (aCons (eVar [0] 1) aNil)) (gNm 8) (sSeq (sSet 9 (eCallF [0] 2 c__law_pick (mOwn 0 (mCons (eC (.int 9)) mNil))))
    (sSeq (sIf (fTru (eVar [0] 6)) (sSet 5 (eOp gIx (eVar [0] 2) (eCallF [0] 2 c__law_pick (mOwn 0 (mCons (eCall gLen (aCons (eVar [0] 2) aNil)) mNil))))) sNil)
    (sSeq (sSet 10 (eTup (aCons (eOp gIx (eLst (aCons (eC (.str (Str.ofString "bill"))) (aCons (eC (.str (Str.ofString "pay"))) aNil))) (eOp gMod (eVar [0] 9) (eC (.int 2)))) (aCons (eOp gAdd (eVar [0] 3) (eCallF [0] 2 c__law_pick (mOwn 0 (mCons (eVar [0] 4) mNil)))) (aCons (eOp gAdd (eC (.int 1)) (eCallF [0] 2 c__law_pick (mOwn 0 (mCons (eVar [0] 5) mNil)))) aNil)))))
    (sSeq (sIf (fAnd (fBool (eOp gEq (eVar [0] 9) (eC (.int 8)))) (fBool (eOp gEq (eCallF [0] 2 c__law_pick (mOwn 0 (mCons (eC (.int 2)) mNil))) (eC (.int 1))))) (sSet 10 (eTup (aCons (eC (.str (Str.ofString "struck"))) aNil))) sNil)
    (sApp 7 (eVar [0] 10)))))))
    (sRetO [0] 7))))))
theorem ok__law_slips (T : Txt K mg) {c__law_frame : FF} (D__law_frame : Def Pg w K mg base "_law_frame" 2 ["jar"] (spV ⟨[0], tb⟩ 1 c__law_frame)) {c__law_pick : FF} (D__law_pick : Def Pg w K mg base "_law_pick" 1 ["jar", "many"] (spV ⟨[0], tb⟩ 2 c__law_pick)) : Def Pg w K mg base "_law_slips" 3 ["jar", "many", "tops"] (spL ⟨[0], tb⟩ 3 (fnL 11 (f__law_slips c__law_frame c__law_pick))) :=
  def_L (N := ["jar", "many", "tops", "low", "span", "top", "mixed", "rows", "turn", "word", "slip"]) T.d__law_slips sc__law_slips fun fa cdv A outer s H E hr =>
    (vb_cons (vs_asg (ve_call D__law_frame (hr.mono (by decide)) (by rfl) (vm_own (i := 0) rfl (hr := vm_nil))) (vg_tup rfl (vgs_cons (vg_name (i := 3) sc__law_slips.nd rfl (hP := pl_not (by decide))) (vgs_cons (vg_name (i := 4) sc__law_slips.nd rfl (hP := pl_not (by decide))) vgs_nil))))
      (vb_cons (vs_set (i := 5) sc__law_slips.nd rfl (hP := pl_not (by decide)) (he := (ve_ix ix_seq ov_ix (ve_var (i := 2) rfl) (ve_call D__law_pick (hr.mono (by decide)) (by rfl) (vm_own (i := 0) rfl (hr := (vm_cons (ve_callB call_len ca_len (by rfl) T.z_len (by decide +kernel) (va_cons (ve_var (i := 2) rfl) va_nil)) vm_nil)))) (fun _ _ => rfl))))
      (vb_cons (vs_set (i := 6) sc__law_slips.nd rfl (hP := pl_not (by decide)) (he := (ve_cmp (op_eqD hr.units) ov_eq (ve_call D__law_pick (hr.mono (by decide)) (by rfl) (vm_own (i := 0) rfl (hr := (vm_cons ve_int vm_nil)))) ve_int (nomark _))))
      (vb_cons (vs_own (i := 7) sc__law_slips.nd rfl (hP := pl_not (by decide)) (he := (vf_lst va_nil)))
      (vb_cons (vs_for PassesOwn.never rfl (vi_range1 (by rfl) T.z_range (va_cons (ve_var (i := 1) rfl) va_nil)) (vg_name (i := 8) sc__law_slips.nd rfl (hP := pl_not (by decide))) (vb_cons (vs_set (i := 9) sc__law_slips.nd rfl (hP := pl_not (by decide)) (he := (ve_call D__law_pick (hr.mono (by decide)) (by rfl) (vm_own (i := 0) rfl (hr := (vm_cons ve_int vm_nil))))))
      (vb_cons (vs_if (vt_truth (ve_var (i := 6) rfl)) (vb_one (vs_set (i := 5) sc__law_slips.nd rfl (hP := pl_not (by decide)) (he := (ve_ix ix_seq ov_ix (ve_var (i := 2) rfl) (ve_call D__law_pick (hr.mono (by decide)) (by rfl) (vm_own (i := 0) rfl (hr := (vm_cons (ve_callB call_len ca_len (by rfl) T.z_len (by decide +kernel) (va_cons (ve_var (i := 2) rfl) va_nil)) vm_nil)))) (fun _ _ => rfl))))) vb_nil)
      (vb_cons (vs_set (i := 10) sc__law_slips.nd rfl (hP := pl_not (by decide)) (he := (ve_tup (va_cons (ve_ix ix_seq ov_ix (ve_lst (va_cons ve_str (va_cons ve_str va_nil))) (ve_op op_mod ov_mod (ve_var (i := 9) rfl) ve_int) (fun _ _ => rfl)) (va_cons (ve_op op_addAll ov_add (ve_var (i := 3) rfl) (ve_call D__law_pick (hr.mono (by decide)) (by rfl) (vm_own (i := 0) rfl (hr := (vm_cons (ve_var (i := 4) rfl) vm_nil))))) (va_cons (ve_op op_addAll ov_add ve_int (ve_call D__law_pick (hr.mono (by decide)) (by rfl) (vm_own (i := 0) rfl (hr := (vm_cons (ve_var (i := 5) rfl) vm_nil))))) va_nil))))))
      (vb_cons (vs_if (vt_bop (vw_and (vt_cmp (op_eqD hr.units) ov_eq (ve_var (i := 9) rfl) ve_int (nomark _)) (vw_and1 (vt_cmp (op_eqD hr.units) ov_eq (ve_call D__law_pick (hr.mono (by decide)) (by rfl) (vm_own (i := 0) rfl (hr := (vm_cons ve_int vm_nil)))) ve_int (nomark _))))) (vb_one (vs_set (i := 10) sc__law_slips.nd rfl (hP := pl_not (by decide)) (he := (ve_tup (va_cons ve_str va_nil))))) vb_nil)
      (vb_one (vs_append (i := 7) rfl (he := (ve_var (i := 10) rfl)))))))))
      (vb_one (vs_retO (i := 7) rfl)))))))
def C_slips : FFL := fnL 11 (f__law_slips C_frame C_pick)
theorem dd__law_slips (T : Txt K mg) : Def Pg w K mg base "_law_slips" 3 ["jar", "many", "tops"] (spL ⟨[0], tb⟩ 3 C_slips) := ok__law_slips T (dd__law_frame T) (dd__law_pick T)
theorem sc__law_cellwise : FnScope ["script", "rows", "jar", "low", "span", "top", "cell", "cup", "word"] ["script"] (defScope s__law_cellwise) := ⟨rfl, rfl, rfl, by decide +kernel, rfl, by decide +kernel, by decide +kernel⟩
def f__law_cellwise (c__law_filled : FFL) (c__law_frame : FF) (c__law_pick : FF) : FS := (sSeq (sOwn 1 (lLst aNil))
    (sSeq (sOwn 2 (lCallF [] 1 c__law_filled (mCons (eCall gSum (aCons (eSl (eVar [] 0) oNone (oSome (eC (.int 40)))) aNil)) mNil)))
    (sSeq (sAsg (eCallF [0] 1 c__law_frame (mOwn 2 mNil)) (gTp 2 (gsCons (gNm 3) (gsCons (gNm 4) gsNil))))
    (sSeq (sSet 5 (eOp gIx (eLst (aCons (eC (.int 1)) (aCons (eC (.int 3)) (aCons (eC (.int 12)) (aCons (eOp gSub (eOp gPow (eC (.int 10)) (eC (.int 30))) (eC (.int 1))) aNil))))) (eCallF [0] 2 c__law_pick (mOwn 2 (mCons (eC (.int 4)) mNil)))))
    (sSeq (sFor (iItems (eSl (eVar [] 0) oNone (oSome (eC (.int 40))))) (gNm 6) (sSeq (sOwn 7 (lCallF [] 1 c__law_filled (mCons (eVar [] 6) mNil)))
    (sSeq (sSet 8 (eOp gIx (eLst (aCons (eC (.str (Str.ofString "bill"))) (aCons (eC (.str (Str.ofString "pay"))) aNil))) (eCallF [0] 2 c__law_pick (mOwn 7 (mCons (eC (.int 2)) mNil)))))
    (sApp 1 (eTup (aCons (eVar [] 8) (aCons (eOp gAdd (eVar [] 3) (eCallF [0] 2 c__law_pick (mOwn 7 (mCons (eVar [] 4) mNil)))) (aCons (eOp gAdd (eC (.int 1)) (eCallF [0] 2 c__law_pick (mOwn 7 (mCons (eVar [] 5) mNil)))) aNil))))))))
    (sRetO [] 1))))))
theorem ok__law_cellwise (T : Txt K mg) {c__law_filled : FFL} (D__law_filled : Def Pg w K mg base "_law_filled" 1 ["cell"] (spL ⟨[], tb⟩ 1 c__law_filled)) {c__law_frame : FF} (D__law_frame : Def Pg w K mg base "_law_frame" 2 ["jar"] (spV ⟨[0], tb⟩ 1 c__law_frame)) {c__law_pick : FF} (D__law_pick : Def Pg w K mg base "_law_pick" 1 ["jar", "many"] (spV ⟨[0], tb⟩ 2 c__law_pick)) : Def Pg w K mg base "_law_cellwise" 3 ["script"] (spL ⟨[], tb⟩ 1 (fnL 9 (f__law_cellwise c__law_filled c__law_frame c__law_pick))) :=
  def_L (N := ["script", "rows", "jar", "low", "span", "top", "cell", "cup", "word"]) T.d__law_cellwise sc__law_cellwise fun fa cdv A outer s H E hr =>
    (vb_cons (vs_own (i := 1) sc__law_cellwise.nd rfl (hP := pl_not (by decide)) (he := (vf_lst va_nil)))
      (vb_cons (vs_own (i := 2) sc__law_cellwise.nd rfl (hP := pl_not (by decide)) (he := (vf_call D__law_filled (hr.mono (by decide)) (by rfl) (vm_cons (ve_callB (cr_sum rfl) ca_sum (by rfl) T.z_sum (by decide +kernel) (va_cons (ve_slice (ve_var (i := 0) rfl) vo_none (vo_some ve_int)) va_nil)) vm_nil))))
      (vb_cons (vs_asg (ve_call D__law_frame (hr.mono (by decide)) (by rfl) (vm_own (i := 2) rfl (hr := vm_nil))) (vg_tup rfl (vgs_cons (vg_name (i := 3) sc__law_cellwise.nd rfl (hP := pl_not (by decide))) (vgs_cons (vg_name (i := 4) sc__law_cellwise.nd rfl (hP := pl_not (by decide))) vgs_nil))))
      (vb_cons (vs_set (i := 5) sc__law_cellwise.nd rfl (hP := pl_not (by decide)) (he := (ve_ix ix_seq ov_ix (ve_lst (va_cons ve_int (va_cons ve_int (va_cons ve_int (va_cons (ve_op op_sub ov_sub (ve_op op_pow ov_pow ve_int ve_int) ve_int) va_nil))))) (ve_call D__law_pick (hr.mono (by decide)) (by rfl) (vm_own (i := 2) rfl (hr := (vm_cons ve_int vm_nil)))) (fun _ _ => rfl))))
      (vb_cons (vs_for PassesOwn.never rfl (vi_seq (ve_slice (ve_var (i := 0) rfl) vo_none (vo_some ve_int))) (vg_name (i := 6) sc__law_cellwise.nd rfl (hP := pl_not (by decide))) (vb_cons (vs_own (i := 7) sc__law_cellwise.nd rfl (hP := pl_not (by decide)) (he := (vf_call D__law_filled (hr.mono (by decide)) (by rfl) (vm_cons (ve_var (i := 6) rfl) vm_nil))))
      (vb_cons (vs_set (i := 8) sc__law_cellwise.nd rfl (hP := pl_not (by decide)) (he := (ve_ix ix_seq ov_ix (ve_lst (va_cons ve_str (va_cons ve_str va_nil))) (ve_call D__law_pick (hr.mono (by decide)) (by rfl) (vm_own (i := 7) rfl (hr := (vm_cons ve_int vm_nil)))) (fun _ _ => rfl))))
      (vb_one (vs_append (i := 1) rfl (he := (ve_tup (va_cons (ve_var (i := 8) rfl) (va_cons (ve_op op_addAll ov_add (ve_var (i := 3) rfl) (ve_call D__law_pick (hr.mono (by decide)) (by rfl) (vm_own (i := 7) rfl (hr := (vm_cons (ve_var (i := 4) rfl) vm_nil))))) (va_cons (ve_op op_addAll ov_add ve_int (ve_call D__law_pick (hr.mono (by decide)) (by rfl) (vm_own (i := 7) rfl (hr := (vm_cons (ve_var (i := 5) rfl) vm_nil))))) va_nil))))))))))
      (vb_one (vs_retO (i := 1) rfl)))))))
def C_cellwise : FFL := fnL 9 (f__law_cellwise C_filled C_frame C_pick)
theorem dd__law_cellwise (T : Txt K mg) : Def Pg w K mg base "_law_cellwise" 3 ["script"] (spL ⟨[], tb⟩ 1 C_cellwise) := ok__law_cellwise T (dd__law_filled T) (dd__law_frame T) (dd__law_pick T)
theorem sc_names_its_bill : FnScope ["entries", "entry"] ["entries", "entry"] (defScope s_names_its_bill) := ⟨rfl, rfl, rfl, by decide +kernel, rfl, by decide +kernel, by decide +kernel⟩
def f_names_its_bill (c_is_bill_index : FF) : FS := (sRet (eAnd (eCallF [] 2 c_is_bill_index (mCons (eVar [] 0) (mCons (eOp gIx (eVar [] 1) (eC (.int 3))) mNil))) (eOp gLe (eOp gIx (eOp gIx (eVar [] 0) (eOp gIx (eVar [] 1) (eC (.int 3)))) (eC (.int 1))) (eOp gIx (eVar [] 1) (eC (.int 1))))))
theorem ok_names_its_bill (T : Txt K mg) {c_is_bill_index : FF} (D_is_bill_index : Def Pg w K mg base "is_bill_index" 3 ["entries", "value"] (spV ⟨[], tb⟩ 2 c_is_bill_index)) : Def Pg w K mg base "names_its_bill" 4 ["entries", "entry"] (spV ⟨[], tb⟩ 2 (fnV 2 (f_names_its_bill c_is_bill_index))) :=
  def_V (N := ["entries", "entry"]) T.d_names_its_bill sc_names_its_bill fun fa cdv A outer s H E hr =>
    (vb_one (vs_ret (ve_and (ve_call D_is_bill_index (hr.mono (by decide)) (by rfl) (vm_cons (ve_var (i := 0) rfl) (vm_cons (ve_ix ix_seq ov_ix (ve_var (i := 1) rfl) ve_int (fun _ _ => rfl)) vm_nil))) (ve_one (ve_cmp op_le ov_le (ve_ix ix_seq ov_ix (ve_ix ix_seq ov_ix (ve_var (i := 0) rfl) (ve_ix ix_seq ov_ix (ve_var (i := 1) rfl) ve_int (fun _ _ => rfl)) (fun _ _ => rfl)) ve_int (fun _ _ => rfl)) (ve_ix ix_seq ov_ix (ve_var (i := 1) rfl) ve_int (fun _ _ => rfl)) (nomark _))))))
def C_names_its_bill : FF := fnV 2 (f_names_its_bill C_is_bill_index)
theorem dd_names_its_bill (T : Txt K mg) : Def Pg w K mg base "names_its_bill" 4 ["entries", "entry"] (spV ⟨[], tb⟩ 2 C_names_its_bill) := ok_names_its_bill T (dd_is_bill_index T)
theorem sc__law_drawn : FnScope ["jar", "upto"] ["jar", "upto"] (defScope s__law_drawn) := ⟨rfl, rfl, rfl, by decide +kernel, rfl, by decide +kernel, by decide +kernel⟩
def f__law_drawn (c__law_named : FF) (c__law_slips : FFL) (c__law_many : FF) : FS := (sRet (eCallF [0] 2 c__law_named (mOwn 0 (mCons (eNew (lCallF [0] 3 c__law_slips (mOwn 0 (mCons (eCallF [0] 2 c__law_many (mOwn 0 (mCons (eVar [0] 1) mNil))) (mCons (eLst (aCons (eC (.int 1)) (aCons (eC (.int 3)) (aCons (eC (.int 12)) (aCons (eOp gSub (eOp gPow (eC (.int 10)) (eC (.int 30))) (eC (.int 1))) aNil))))) mNil))))) mNil))))
theorem ok__law_drawn (T : Txt K mg) {c__law_named : FF} (D__law_named : Def Pg w K mg base "_law_named" 2 ["jar", "rows"] (spV ⟨[0], tb⟩ 2 c__law_named)) {c__law_slips : FFL} (D__law_slips : Def Pg w K mg base "_law_slips" 3 ["jar", "many", "tops"] (spL ⟨[0], tb⟩ 3 c__law_slips)) {c__law_many : FF} (D__law_many : Def Pg w K mg base "_law_many" 2 ["jar", "upto"] (spV ⟨[0], tb⟩ 2 c__law_many)) : Def Pg w K mg base "_law_drawn" 4 ["jar", "upto"] (spV ⟨[0], tb⟩ 2 (fnV 2 (f__law_drawn c__law_named c__law_slips c__law_many))) :=
  def_V (N := ["jar", "upto"]) T.d__law_drawn sc__law_drawn fun fa cdv A outer s H E hr =>
    (vb_one (vs_ret (ve_call D__law_named (hr.mono (by decide)) (by rfl) (vm_own (i := 0) rfl (hr := (vm_cons (ve_new (vf_call D__law_slips (hr.mono (by decide)) (by rfl) (vm_own (i := 0) rfl (hr := (vm_cons (ve_call D__law_many (hr.mono (by decide)) (by rfl) (vm_own (i := 0) rfl (hr := (vm_cons (ve_var (i := 1) rfl) vm_nil)))) (vm_cons (ve_lst (va_cons ve_int (va_cons ve_int (va_cons ve_int (va_cons (ve_op op_sub ov_sub (ve_op op_pow ov_pow ve_int ve_int) ve_int) va_nil))))) vm_nil)))))) vm_nil))))))
def C_drawn : FF := fnV 2 (f__law_drawn C_named C_slips C_many)
theorem dd__law_drawn (T : Txt K mg) : Def Pg w K mg base "_law_drawn" 4 ["jar", "upto"] (spV ⟨[0], tb⟩ 2 C_drawn) := ok__law_drawn T (dd__law_named T) (dd__law_slips T) (dd__law_many T)
theorem sc_fits_account : FnScope ["value", "entry"] ["value"] (defScope s_fits_account) := ⟨rfl, rfl, rfl, by decide +kernel, rfl, by decide +kernel, by decide +kernel⟩
def f_fits_account (c_has_entry_form : FF) (c_names_its_bill : FF) : FS := (sSeq (sIf (fOr (fBool (eTyp true "tuple" (eVar [] 0))) (fNot (fTru (eCall gAll (aCons (eNew (lComp (iItems (eVar [] 0)) (gNm 1) tYesV (eCallF [] 1 c_has_entry_form (mCons (eVar [] 1) mNil)) [1])) aNil))))) (sRet (eC (.bool false))) sNil)
    (sRet (eCall gAll (aCons (eNew (lComp (iItems (eVar [] 0)) (gNm 1) (fBool (eOp gEq (eOp gIx (eVar [] 1) (eC (.int 0))) (eC (.str (Str.ofString "named"))))) (eCallF [] 2 c_names_its_bill (mCons (eVar [] 0) (mCons (eVar [] 1) mNil))) [1])) aNil))))
theorem ok_fits_account (T : Txt K mg) {c_has_entry_form : FF} (D_has_entry_form : Def Pg w K mg base "has_entry_form" 2 ["value"] (spV ⟨[], tb⟩ 1 c_has_entry_form)) {c_names_its_bill : FF} (D_names_its_bill : Def Pg w K mg base "names_its_bill" 4 ["entries", "entry"] (spV ⟨[], tb⟩ 2 c_names_its_bill)) : Def Pg w K mg base "fits_account" 5 ["value"] (spV ⟨[], tb⟩ 1 (fnV 2 (f_fits_account c_has_entry_form c_names_its_bill))) :=
  def_V (N := ["value", "entry"]) T.d_fits_account sc_fits_account fun fa cdv A outer s H E hr =>
    (vb_cons (vs_if (vt_bop (vw_or (vt_typNe (by decide) hr.units (by rfl) T.z_type (by rfl) T.z_tuple (by rfl) (ve_var (i := 0) rfl)) (vw_or1 (vt_not (vt_truth (ve_callB (cr_all rfl) ca_all (by rfl) T.z_all (by decide +kernel) (va_cons (ve_new (vf_lc rfl sc_fits_account.nd (vi_seq (ve_var (i := 0) rfl)) (blkOk_by (own := [("entry", 1)]) (N := ["value", "entry"]) (sc := defScope s_fits_account) (by decide +kernel)) rfl (pl_all (by decide)) (by decide) (fun _ _ _ _ _ => (vg_name (i := 1) sc_fits_account.nd rfl (hP := pl_not (by decide)))) (fun _ _ _ _ _ => vts_nil) (fun _ _ _ _ _ => (ve_call D_has_entry_form (hr.mono (by decide)) (by rfl) (vm_cons (ve_var (i := 1) rfl) vm_nil))))) va_nil))))))) (vb_one (vs_ret ve_bl)) vb_nil)
      (vb_one (vs_ret (ve_callB (cr_all rfl) ca_all (by rfl) T.z_all (by decide +kernel) (va_cons (ve_new (vf_lc rfl sc_fits_account.nd (vi_seq (ve_var (i := 0) rfl)) (blkOk_by (own := [("entry", 1)]) (N := ["value", "entry"]) (sc := defScope s_fits_account) (by decide +kernel)) rfl (pl_all (by decide)) (by decide) (fun _ _ _ _ _ => (vg_name (i := 1) sc_fits_account.nd rfl (hP := pl_not (by decide)))) (fun _ _ _ _ _ => (vts_one (vt_cmp (op_eqD hr.units) ov_eq (ve_ix ix_seq ov_ix (ve_var (i := 1) rfl) ve_int (fun _ _ => rfl)) ve_str (nomark _)))) (fun _ _ _ _ _ => (ve_call D_names_its_bill (hr.mono (by decide)) (by rfl) (vm_cons (ve_var (i := 0) rfl) (vm_cons (ve_var (i := 1) rfl) vm_nil)))))) va_nil)))))
def C_fits_account : FF := fnV 2 (f_fits_account C_has_entry_form C_names_its_bill)
theorem dd_fits_account (T : Txt K mg) : Def Pg w K mg base "fits_account" 5 ["value"] (spV ⟨[], tb⟩ 1 C_fits_account) := ok_fits_account T (dd_has_entry_form T) (dd_names_its_bill T)
theorem sc_check_account : FnScope ["account"] ["account"] (defScope s_check_account) := ⟨rfl, rfl, rfl, by decide +kernel, rfl, by decide +kernel, by decide +kernel⟩
def f_check_account (c_fits_account : FF) : FS := (sIf (fNot (fTru (eCallF [] 1 c_fits_account (mCons (eVar [] 0) mNil)))) sNever sNil)
theorem ok_check_account (T : Txt K mg) {c_fits_account : FF} (D_fits_account : Def Pg w K mg base "fits_account" 5 ["value"] (spV ⟨[], tb⟩ 1 c_fits_account)) : Def Pg w K mg base "check_account" 6 ["account"] (spV ⟨[], tb⟩ 1 (fnV 1 (f_check_account c_fits_account))) :=
  def_V (N := ["account"]) T.d_check_account sc_check_account fun fa cdv A outer s H E hr =>
    (vb_one (vs_if (vt_not (vt_truth (ve_call D_fits_account (hr.mono (by decide)) (by rfl) (vm_cons (ve_var (i := 0) rfl) vm_nil)))) (vb_one vs_never) vb_nil))
def C_check_account : FF := fnV 1 (f_check_account C_fits_account)
theorem dd_check_account (T : Txt K mg) : Def Pg w K mg base "check_account" 6 ["account"] (spV ⟨[], tb⟩ 1 C_check_account) := ok_check_account T (dd_fits_account T)
theorem sc_line : FnScope ["account"] ["account"] (defScope s_line) := ⟨rfl, rfl, rfl, by decide +kernel, rfl, by decide +kernel, by decide +kernel⟩
def f_line (c_check_account : FF) (c_along : FFL) : FS := (sSeq (sDrop (eCallF [] 1 c_check_account (mCons (eVar [] 0) mNil)))
    (sRetF (lCallF [] 1 c_along (mCons (eVar [] 0) mNil))))
theorem ok_line (T : Txt K mg) {c_check_account : FF} (D_check_account : Def Pg w K mg base "check_account" 6 ["account"] (spV ⟨[], tb⟩ 1 c_check_account)) {c_along : FFL} (D_along : Def Pg w K mg base "along" 1 ["account"] (spL ⟨[], tb⟩ 1 c_along)) : Def Pg w K mg base "line" 7 ["account"] (spL ⟨[], tb⟩ 1 (fnL 1 (f_line c_check_account c_along))) :=
  def_L (N := ["account"]) T.d_line sc_line fun fa cdv A outer s H E hr =>
    (vb_cons (vs_expr (ve_call D_check_account (hr.mono (by decide)) (by rfl) (vm_cons (ve_var (i := 0) rfl) vm_nil)))
      (vb_one (vs_retF (vf_call D_along (hr.mono (by decide)) (by rfl) (vm_cons (ve_var (i := 0) rfl) vm_nil)))))
def C_line : FFL := fnL 1 (f_line C_check_account C_along)
theorem dd_line (T : Txt K mg) : Def Pg w K mg base "line" 7 ["account"] (spL ⟨[], tb⟩ 1 C_line) := ok_line T (dd_check_account T) (dd_along T)
theorem sc_bills_of : FnScope ["account"] ["account"] (defScope s_bills_of) := ⟨rfl, rfl, rfl, by decide +kernel, rfl, by decide +kernel, by decide +kernel⟩
def f_bills_of (c_check_account : FF) (c_bills_along : FFL) : FS := (sSeq (sDrop (eCallF [] 1 c_check_account (mCons (eVar [] 0) mNil)))
    (sRetF (lCallF [] 1 c_bills_along (mCons (eVar [] 0) mNil))))
theorem ok_bills_of (T : Txt K mg) {c_check_account : FF} (D_check_account : Def Pg w K mg base "check_account" 6 ["account"] (spV ⟨[], tb⟩ 1 c_check_account)) {c_bills_along : FFL} (D_bills_along : Def Pg w K mg base "bills_along" 2 ["account"] (spL ⟨[], tb⟩ 1 c_bills_along)) : Def Pg w K mg base "bills_of" 7 ["account"] (spL ⟨[], tb⟩ 1 (fnL 1 (f_bills_of c_check_account c_bills_along))) :=
  def_L (N := ["account"]) T.d_bills_of sc_bills_of fun fa cdv A outer s H E hr =>
    (vb_cons (vs_expr (ve_call D_check_account (hr.mono (by decide)) (by rfl) (vm_cons (ve_var (i := 0) rfl) vm_nil)))
      (vb_one (vs_retF (vf_call D_bills_along (hr.mono (by decide)) (by rfl) (vm_cons (ve_var (i := 0) rfl) vm_nil)))))
def C_bills_of : FFL := fnL 1 (f_bills_of C_check_account C_bills_along)
theorem dd_bills_of (T : Txt K mg) : Def Pg w K mg base "bills_of" 7 ["account"] (spL ⟨[], tb⟩ 1 C_bills_of) := ok_bills_of T (dd_check_account T) (dd_bills_along T)
theorem sc_payments_of : FnScope ["account"] ["account"] (defScope s_payments_of) := ⟨rfl, rfl, rfl, by decide +kernel, rfl, by decide +kernel, by decide +kernel⟩
def f_payments_of (c_check_account : FF) (c_payments_along : FFL) : FS := (sSeq (sDrop (eCallF [] 1 c_check_account (mCons (eVar [] 0) mNil)))
    (sRetF (lCallF [] 1 c_payments_along (mCons (eVar [] 0) mNil))))
theorem ok_payments_of (T : Txt K mg) {c_check_account : FF} (D_check_account : Def Pg w K mg base "check_account" 6 ["account"] (spV ⟨[], tb⟩ 1 c_check_account)) {c_payments_along : FFL} (D_payments_along : Def Pg w K mg base "payments_along" 2 ["account"] (spL ⟨[], tb⟩ 1 c_payments_along)) : Def Pg w K mg base "payments_of" 7 ["account"] (spL ⟨[], tb⟩ 1 (fnL 1 (f_payments_of c_check_account c_payments_along))) :=
  def_L (N := ["account"]) T.d_payments_of sc_payments_of fun fa cdv A outer s H E hr =>
    (vb_cons (vs_expr (ve_call D_check_account (hr.mono (by decide)) (by rfl) (vm_cons (ve_var (i := 0) rfl) vm_nil)))
      (vb_one (vs_retF (vf_call D_payments_along (hr.mono (by decide)) (by rfl) (vm_cons (ve_var (i := 0) rfl) vm_nil)))))
def C_payments_of : FFL := fnL 1 (f_payments_of C_check_account C_payments_along)
theorem dd_payments_of (T : Txt K mg) : Def Pg w K mg base "payments_of" 7 ["account"] (spL ⟨[], tb⟩ 1 C_payments_of) := ok_payments_of T (dd_check_account T) (dd_payments_along T)
theorem sc__law_like : FnScope ["found", "due", "one", "two"] ["found", "due"] (defScope s__law_like) := ⟨rfl, rfl, rfl, by decide +kernel, rfl, by decide +kernel, by decide +kernel⟩
def f__law_like (c__law_like : FF) (c__law_is_int : FF) : FS := (sSeq (sIf (fTru (eIsi2 "list" "tuple" (eVar [] 1))) (sSeq (sIf (fAnd (fTru (eIsi "list" (eVar [] 1))) (fNot (fTru (eIsi "list" (eVar [] 0))))) (sRet (eC (.bool false))) sNil)
    (sSeq (sIf (fAnd (fTru (eIsi "tuple" (eVar [] 1))) (fNot (fTru (eIsi "tuple" (eVar [] 0))))) (sRet (eC (.bool false))) sNil)
    (sRet (eAnd (eOp gEq (eCall gLen (aCons (eVar [] 0) aNil)) (eCall gLen (aCons (eVar [] 1) aNil))) (eCall gAll (aCons (eNew (lComp (iZipD (aCons (eVar [] 0) (aCons (eVar [] 1) aNil))) (gTp 2 (gsCons (gNm 2) (gsCons (gNm 3) gsNil))) tYesV (eCallF [] 2 c__law_like (mCons (eVar [] 2) (mCons (eVar [] 3) mNil))) [2, 3])) aNil)))))) sNil)
    (sSeq (sIf (fBool (eOp gIsA (eVar [] 1) (eC .none))) (sRet (eOp gIsA (eVar [] 0) (eC .none))) sNil)
    (sSeq (sIf (fTru (eIsi "bool" (eVar [] 1))) (sRet (eAnd (eIsi "bool" (eVar [] 0)) (eOp gEq (eVar [] 0) (eVar [] 1)))) sNil)
    (sSeq (sIf (fTru (eIsi "int" (eVar [] 1))) (sRet (eAnd (eCallF [] 1 c__law_is_int (mCons (eVar [] 0) mNil)) (eOp gEq (eVar [] 0) (eVar [] 1)))) sNil)
    (sRet (eAnd (eIsi "str" (eVar [] 0)) (eOp gEq (eVar [] 0) (eVar [] 1))))))))
theorem ok__law_like (T : Txt K mg) {kk : Nat} (hk : 1 ≤ kk) {c__law_like : FF} (D__law_like : Def Pg w K mg base "_law_like" kk ["found", "due"] (spV ⟨[], tb⟩ 2 c__law_like)) {c__law_is_int : FF} (D__law_is_int : Def Pg w K mg base "_law_is_int" 1 ["thing"] (spV ⟨[], tb⟩ 1 c__law_is_int)) : Def Pg w K mg base "_law_like" (kk + 1) ["found", "due"] (spV ⟨[], tb⟩ 2 (fnV 4 (f__law_like c__law_like c__law_is_int))) :=
  def_V (N := ["found", "due", "one", "two"]) T.d__law_like sc__law_like fun fa cdv A outer s H E hr =>
    (vb_cons (vs_if (vt_truth (ve_isi2 (by decide) (by decide) (by rfl) T.z_isinstance (by rfl) T.z_list (by rfl) (by rfl) T.z_tuple (by rfl) (ve_var (i := 1) rfl))) (vb_cons (vs_if (vt_bop (vw_and (vt_truth (ve_isi (by decide) (by rfl) T.z_isinstance (by rfl) T.z_list (by rfl) (ve_var (i := 1) rfl))) (vw_and1 (vt_not (vt_truth (ve_isi (by decide) (by rfl) T.z_isinstance (by rfl) T.z_list (by rfl) (ve_var (i := 0) rfl))))))) (vb_one (vs_ret ve_bl)) vb_nil)
      (vb_cons (vs_if (vt_bop (vw_and (vt_truth (ve_isi (by decide) (by rfl) T.z_isinstance (by rfl) T.z_tuple (by rfl) (ve_var (i := 1) rfl))) (vw_and1 (vt_not (vt_truth (ve_isi (by decide) (by rfl) T.z_isinstance (by rfl) T.z_tuple (by rfl) (ve_var (i := 0) rfl))))))) (vb_one (vs_ret ve_bl)) vb_nil)
      (vb_one (vs_ret (ve_and (ve_cmp (op_eqD hr.units) ov_eq (ve_callB call_len ca_len (by rfl) T.z_len (by decide +kernel) (va_cons (ve_var (i := 0) rfl) va_nil)) (ve_callB call_len ca_len (by rfl) T.z_len (by decide +kernel) (va_cons (ve_var (i := 1) rfl) va_nil)) (nomark _)) (ve_one (ve_callB (cr_all rfl) ca_all (by rfl) T.z_all (by decide +kernel) (va_cons (ve_new (vf_lc rfl sc__law_like.nd (vi_zip (by rfl) T.z_zip (va_cons (ve_var (i := 0) rfl) (va_cons (ve_var (i := 1) rfl) va_nil))) (blkOk_by (own := [("one", 2), ("two", 3)]) (N := ["found", "due", "one", "two"]) (sc := defScope s__law_like) (by decide +kernel)) rfl (pl_all (by decide)) (by decide) (fun _ _ _ _ _ => (vg_tup rfl (vgs_cons (vg_name (i := 2) sc__law_like.nd rfl (hP := pl_not (by decide))) (vgs_cons (vg_name (i := 3) sc__law_like.nd rfl (hP := pl_not (by decide))) vgs_nil)))) (fun _ _ _ _ _ => vts_nil) (fun _ _ _ _ _ => (ve_call D__law_like (hr.mono (by omega)) (by rfl) (vm_cons (ve_var (i := 2) rfl) (vm_cons (ve_var (i := 3) rfl) vm_nil)))))) va_nil)))))))) vb_nil)
      (vb_cons (vs_if (vt_cmp op_isA ov_isA (ve_var (i := 1) rfl) ve_non (nomark _)) (vb_one (vs_ret (ve_cmp op_isA ov_isA (ve_var (i := 0) rfl) ve_non (nomark _)))) vb_nil)
      (vb_cons (vs_if (vt_truth (ve_isi (by decide) (by rfl) T.z_isinstance (by rfl) T.z_bool (by rfl) (ve_var (i := 1) rfl))) (vb_one (vs_ret (ve_and (ve_isi (by decide) (by rfl) T.z_isinstance (by rfl) T.z_bool (by rfl) (ve_var (i := 0) rfl)) (ve_one (ve_cmp (op_eqD hr.units) ov_eq (ve_var (i := 0) rfl) (ve_var (i := 1) rfl) (nomark _)))))) vb_nil)
      (vb_cons (vs_if (vt_truth (ve_isi (by decide) (by rfl) T.z_isinstance (by rfl) T.z_int (by rfl) (ve_var (i := 1) rfl))) (vb_one (vs_ret (ve_and (ve_call D__law_is_int (hr.mono (by omega)) (by rfl) (vm_cons (ve_var (i := 0) rfl) vm_nil)) (ve_one (ve_cmp (op_eqD hr.units) ov_eq (ve_var (i := 0) rfl) (ve_var (i := 1) rfl) (nomark _)))))) vb_nil)
      (vb_one (vs_ret (ve_and (ve_isi (by decide) (by rfl) T.z_isinstance (by rfl) T.z_str (by rfl) (ve_var (i := 0) rfl)) (ve_one (ve_cmp (op_eqD hr.units) ov_eq (ve_var (i := 0) rfl) (ve_var (i := 1) rfl) (nomark _))))))))))
def C_like : Nat → FF
  | 0 => fun _ => none
  | n + 1 => fnV 4 (f__law_like (C_like n) C_is_int)
theorem dr__law_like (T : Txt K mg) : ∀ n, Def Pg w K mg base "_law_like" (1 + 1 + n) ["found", "due"] (spV ⟨[], tb⟩ 2 (C_like n))
  | 0 => def_never ⟨[], tb⟩ T.d__law_like sc__law_like
  | n + 1 => ok__law_like T (by omega) (dr__law_like T n) (dd__law_is_int T)
theorem dd__law_like (T : Txt K mg) : Def Pg w K mg base "_law_like" 26 ["found", "due"] (spV ⟨[], tb⟩ 2 (C_like 20)) := (dr__law_like T 20).mono (by decide)
theorem sc__law_line_right : FnScope ["acct", "found", "at", "debts", "moneys", "told", "kept", "rows", "one", "two"] ["acct"] (defScope s__law_line_right) := ⟨rfl, rfl, rfl, by decide +kernel, rfl, by decide +kernel, by decide +kernel⟩
def f__law_line_right (c_line : FFL) (c__law_is_int : FF) (c_payments_of : FFL) (c_bills_of : FFL) (c__law_like : FF) : FS := (sSeq (sSetN 1 (nNew (lCallF [] 1 c_line (mCons (eVar [] 0) mNil))))
    (sSeq (sIf (fOr (fNot (fTru (eIsi "list" (eVar [] 1)))) (fNot (fTru (eCall gAll (aCons (eNew (lComp (iItems (eVar [] 1)) (gNm 2) tYesV (eCallF [] 1 c__law_is_int (mCons (eVar [] 2) mNil)) [2])) aNil))))) (sRet (eC (.bool false))) sNil)
    (sSeq (sIf (fBool (eOp gNe (eNew (lCall gSortA (aCons (eVar [] 1) aNil))) (eNew (lComp (iRange1 (aCons (eCall gLen (aCons (eVar [] 0) aNil)) aNil)) (gNm 2) (fBool (eOp gNe (eOp gIx (eOp gIx (eVar [] 0) (eVar [] 2)) (eC (.int 0))) (eC (.str (Str.ofString "struck"))))) (eVar [] 2) [2])))) (sRet (eC (.bool false))) sNil)
    (sSeq (sFor (iRange2 (aCons (eC (.int 1)) (aCons (eCall gLen (aCons (eVar [] 1) aNil)) aNil))) (gNm 2) (sSeq (sSet 8 (eOp gIx (eOp gIx (eVar [] 0) (eOp gIx (eVar [] 1) (eOp gSub (eVar [] 2) (eC (.int 1))))) (eC (.int 1))))
    (sSeq (sSet 9 (eOp gIx (eOp gIx (eVar [] 0) (eOp gIx (eVar [] 1) (eVar [] 2))) (eC (.int 1))))
    (sIf (fOr (fBool (eOp gGt (eVar [] 8) (eVar [] 9))) (fAnd (fBool (eOp gEq (eVar [] 8) (eVar [] 9))) (fBool (eOp gGt (eOp gIx (eVar [] 1) (eOp gSub (eVar [] 2) (eC (.int 1)))) (eOp gIx (eVar [] 1) (eVar [] 2)))))) (sRet (eC (.bool false))) sNil))))
    (sSeq (sOwn 3 (lComp (iItems (eVar [] 1)) (gNm 2) (fBool (eOp gEq (eOp gIx (eOp gIx (eVar [] 0) (eVar [] 2)) (eC (.int 0))) (eC (.str (Str.ofString "bill"))))) (eVar [] 2) [2]))
    (sSeq (sOwn 4 (lComp (iItems (eVar [] 1)) (gNm 2) (fBool (eOp gNe (eOp gIx (eOp gIx (eVar [] 0) (eVar [] 2)) (eC (.int 0))) (eC (.str (Str.ofString "bill"))))) (eVar [] 2) [2]))
    (sSeq (sSetN 5 (eLst (aCons (nNew (lCallF [] 1 c_line (mPerm 1 [0] (mCons (eVar [] 0) mNil)))) (aCons (nNew (lCallF [] 1 c_bills_of (mCons (eVar [] 0) mNil))) (aCons (nNew (lCallF [] 1 c_payments_of (mCons (eVar [] 0) mNil))) aNil)))))
    (sSeq (sSetN 5 (eOp gCat (nVar [] 5) (eLst (aCons (nNew (lCallF [] 1 c_bills_of (mPerm 1 [0] (mCons (eVar [] 0) mNil)))) (aCons (nNew (lCallF [] 1 c_payments_of (mPerm 1 [0] (mCons (eVar [] 0) mNil)))) aNil)))))
    (sSeq (sIf (fNot (fTru (eCallU 2 c__law_like (aCons (eVar [] 5) (auEnd (ulCons (uLst (ulCons (uVar 1) (ulCons (uVar 3) (ulCons (uVar 4) (ulCons (uVar 3) (ulCons (uVar 4) (fun _ => some []))))))) (fun _ => some []))))))) (sRet (eC (.bool false))) sNil)
    (sSeq (sOwn 6 (lCall gListOf (aCons (eVar [] 1) aNil)))
    (sSeq (sSpoil 7 (eOp gCat (nVar [] 5) (eLst (aCons (nVar [] 1) aNil))))
    (sRet (eCallU 2 c__law_like (aCons (eLst (aCons (eNew (lCallF [] 1 c_line (mCons (eVar [] 0) mNil))) (aCons (eNew (lCallF [] 1 c_bills_of (mCons (eVar [] 0) mNil))) (aCons (eNew (lCallF [] 1 c_payments_of (mCons (eVar [] 0) mNil))) aNil)))) (auEnd (ulCons (uLst (ulCons (uVar 6) (ulCons (uVar 3) (ulCons (uVar 4) (fun _ => some []))))) (fun _ => some [])))))))))))))))))
theorem ok__law_line_right (T : Txt K mg) {c_line : FFL} (D_line : Def Pg w K mg base "line" 7 ["account"] (spL ⟨[], tb⟩ 1 c_line)) {c__law_is_int : FF} (D__law_is_int : Def Pg w K mg base "_law_is_int" 1 ["thing"] (spV ⟨[], tb⟩ 1 c__law_is_int)) {c_payments_of : FFL} (D_payments_of : Def Pg w K mg base "payments_of" 7 ["account"] (spL ⟨[], tb⟩ 1 c_payments_of)) {c_bills_of : FFL} (D_bills_of : Def Pg w K mg base "bills_of" 7 ["account"] (spL ⟨[], tb⟩ 1 c_bills_of)) {c__law_like : FF} (D__law_like : Def Pg w K mg base "_law_like" 26 ["found", "due"] (spV ⟨[], tb⟩ 2 c__law_like)) : Def Pg w K mg base "_law_line_right" 27 ["acct"] (spV ⟨[], tb⟩ 1 (fnV 10 (f__law_line_right c_line c__law_is_int c_payments_of c_bills_of c__law_like))) :=
  def_V0 (N := ["acct", "found", "at", "debts", "moneys", "told", "kept", "rows", "one", "two"]) T.d__law_line_right sc__law_line_right fun fa cdv A outer s H E hr =>
    (vb0_cons (vs0_of (vs_setN (i := 1) sc__law_line_right.nd rfl (hP := pl_not (by decide)) (he := (vn_new (vf_call D_line (hr.mono (by decide)) (by rfl) (vm_cons (ve_var (i := 0) rfl) vm_nil))))))
      (vb0_cons (vs0_of (vs_if (vt_bop (vw_or (vt_not (vt_truth (ve_isi (by decide) (by rfl) T.z_isinstance (by rfl) T.z_list (by rfl) (ve_var (i := 1) rfl)))) (vw_or1 (vt_not (vt_truth (ve_callB (cr_all rfl) ca_all (by rfl) T.z_all (by decide +kernel) (va_cons (ve_new (vf_lc rfl sc__law_line_right.nd (vi_seq (ve_var (i := 1) rfl)) (blkOk_by (own := [("at", 2)]) (N := ["acct", "found", "at", "debts", "moneys", "told", "kept", "rows", "one", "two"]) (sc := defScope s__law_line_right) (by decide +kernel)) rfl (pl_all (by decide)) (by decide) (fun _ _ _ _ _ => (vg_name (i := 2) sc__law_line_right.nd rfl (hP := pl_not (by decide)))) (fun _ _ _ _ _ => vts_nil) (fun _ _ _ _ _ => (ve_call D__law_is_int (hr.mono (by decide)) (by rfl) (vm_cons (ve_var (i := 2) rfl) vm_nil))))) va_nil))))))) (vb_one (vs_ret ve_bl)) vb_nil))
      (vb0_cons (vs0_of (vs_if (vt_cmp (op_neD hr.units) ov_ne (ve_new (vf_callB (cr_sortA hr.units) ca_sortA (by rfl) T.z_sorted (by decide +kernel) (va_cons (ve_var (i := 1) rfl) va_nil))) (ve_new (vf_lc rfl sc__law_line_right.nd (vi_range1 (by rfl) T.z_range (va_cons (ve_callB call_len ca_len (by rfl) T.z_len (by decide +kernel) (va_cons (ve_var (i := 0) rfl) va_nil)) va_nil)) (blkOk_by (own := [("at", 2)]) (N := ["acct", "found", "at", "debts", "moneys", "told", "kept", "rows", "one", "two"]) (sc := defScope s__law_line_right) (by decide +kernel)) rfl (pl_all (by decide)) (by decide) (fun _ _ _ _ _ => (vg_name (i := 2) sc__law_line_right.nd rfl (hP := pl_not (by decide)))) (fun _ _ _ _ _ => (vts_one (vt_cmp (op_neD hr.units) ov_ne (ve_ix ix_seq ov_ix (ve_ix ix_seq ov_ix (ve_var (i := 0) rfl) (ve_var (i := 2) rfl) (fun _ _ => rfl)) ve_int (fun _ _ => rfl)) ve_str (nomark _)))) (fun _ _ _ _ _ => (ve_var (i := 2) rfl)))) (nomark _)) (vb_one (vs_ret ve_bl)) vb_nil))
      (vb0_cons (vs0_of (vs_for PassesOwn.never rfl (vi_range2 (by rfl) T.z_range (va_cons ve_int (va_cons (ve_callB call_len ca_len (by rfl) T.z_len (by decide +kernel) (va_cons (ve_var (i := 1) rfl) va_nil)) va_nil))) (vg_name (i := 2) sc__law_line_right.nd rfl (hP := pl_not (by decide))) (vb_cons (vs_set (i := 8) sc__law_line_right.nd rfl (hP := pl_not (by decide)) (he := (ve_ix ix_seq ov_ix (ve_ix ix_seq ov_ix (ve_var (i := 0) rfl) (ve_ix ix_seq ov_ix (ve_var (i := 1) rfl) (ve_op op_sub ov_sub (ve_var (i := 2) rfl) ve_int) (fun _ _ => rfl)) (fun _ _ => rfl)) ve_int (fun _ _ => rfl))))
      (vb_cons (vs_set (i := 9) sc__law_line_right.nd rfl (hP := pl_not (by decide)) (he := (ve_ix ix_seq ov_ix (ve_ix ix_seq ov_ix (ve_var (i := 0) rfl) (ve_ix ix_seq ov_ix (ve_var (i := 1) rfl) (ve_var (i := 2) rfl) (fun _ _ => rfl)) (fun _ _ => rfl)) ve_int (fun _ _ => rfl))))
      (vb_one (vs_if (vt_bop (vw_or (vt_cmp op_gt ov_gt (ve_var (i := 8) rfl) (ve_var (i := 9) rfl) (nomark _)) (vw_or1 (vt_bop (vw_and (vt_cmp (op_eqD hr.units) ov_eq (ve_var (i := 8) rfl) (ve_var (i := 9) rfl) (nomark _)) (vw_and1 (vt_cmp op_gt ov_gt (ve_ix ix_seq ov_ix (ve_var (i := 1) rfl) (ve_op op_sub ov_sub (ve_var (i := 2) rfl) ve_int) (fun _ _ => rfl)) (ve_ix ix_seq ov_ix (ve_var (i := 1) rfl) (ve_var (i := 2) rfl) (fun _ _ => rfl)) (nomark _)))))))) (vb_one (vs_ret ve_bl)) vb_nil))))))
      (vb0_cons (vs0_of (vs_ownLc (i := 3) rfl sc__law_line_right.nd rfl rfl (pl_not (by decide)) (sw_true rfl rfl rfl (by decide +kernel)) (vi_seq (ve_var (i := 1) rfl)) (blkOk_by (own := [("at", 2)]) (N := ["acct", "found", "at", "debts", "moneys", "told", "kept", "rows", "one", "two"]) (sc := defScope s__law_line_right) (by decide +kernel)) rfl (pl_all (by decide)) (by decide) (fun _ _ _ _ _ => (vg_name (i := 2) sc__law_line_right.nd rfl (hP := pl_not (by decide)))) (fun _ _ _ _ _ => (vts_one (vt_cmp (op_eqD hr.units) ov_eq (ve_ix ix_seq ov_ix (ve_ix ix_seq ov_ix (ve_var (i := 0) rfl) (ve_var (i := 2) rfl) (fun _ _ => rfl)) ve_int (fun _ _ => rfl)) ve_str (nomark _)))) (fun _ _ _ _ _ => (ve_var (i := 2) rfl))))
      (vb0_cons (vs0_of (vs_ownLc (i := 4) rfl sc__law_line_right.nd rfl rfl (pl_not (by decide)) (sw_true rfl rfl rfl (by decide +kernel)) (vi_seq (ve_var (i := 1) rfl)) (blkOk_by (own := [("at", 2)]) (N := ["acct", "found", "at", "debts", "moneys", "told", "kept", "rows", "one", "two"]) (sc := defScope s__law_line_right) (by decide +kernel)) rfl (pl_all (by decide)) (by decide) (fun _ _ _ _ _ => (vg_name (i := 2) sc__law_line_right.nd rfl (hP := pl_not (by decide)))) (fun _ _ _ _ _ => (vts_one (vt_cmp (op_neD hr.units) ov_ne (ve_ix ix_seq ov_ix (ve_ix ix_seq ov_ix (ve_var (i := 0) rfl) (ve_var (i := 2) rfl) (fun _ _ => rfl)) ve_int (fun _ _ => rfl)) ve_str (nomark _)))) (fun _ _ _ _ _ => (ve_var (i := 2) rfl))))
      (vb0_cons (vs0_of (vs_setN (i := 5) sc__law_line_right.nd rfl (hP := pl_not (by decide)) (he := (vn_lst (vna_cons (vn_new (vf_callKw D_line T.k_line_account (hr.mono (by decide)) (by rfl) (vk_cons (ve_var (i := 0) rfl) vk_nil))) (vna_cons (vn_new (vf_call D_bills_of (hr.mono (by decide)) (by rfl) (vm_cons (ve_var (i := 0) rfl) vm_nil))) (vna_cons (vn_new (vf_call D_payments_of (hr.mono (by decide)) (by rfl) (vm_cons (ve_var (i := 0) rfl) vm_nil))) vna_nil)))))))
      (vb0_cons (vs0_of (vs_setN (i := 5) sc__law_line_right.nd rfl (hP := pl_not (by decide)) (he := (vn_cat (vn_var (i := 5) rfl) (vn_lst (vna_cons (vn_new (vf_callKw D_bills_of T.k_bills_of_account (hr.mono (by decide)) (by rfl) (vk_cons (ve_var (i := 0) rfl) vk_nil))) (vna_cons (vn_new (vf_callKw D_payments_of T.k_payments_of_account (hr.mono (by decide)) (by rfl) (vk_cons (ve_var (i := 0) rfl) vk_nil))) vna_nil)))))))
      (vb0_cons (vs0_of (vs_if (vt_not (vt_truth (ve_callU D__law_like (hr.mono (by decide)) (by rfl) (vau_cons (ve_var (i := 5) rfl) (vau_end (vul_cons (vu_lst (vul_cons (vu_var (i := 1) rfl) (vul_cons (vu_var (i := 3) rfl) (vul_cons (vu_var (i := 4) rfl) (vul_cons (vu_var (i := 3) rfl) (vul_cons (vu_var (i := 4) rfl) vul_nil)))))) vul_nil)))))) (vb_one (vs_ret ve_bl)) vb_nil))
      (vb0_cons (vs0_of (vs_own (i := 6) sc__law_line_right.nd rfl (hP := pl_not (by decide)) (he := (vf_callTy call_list_of ca_list (by rfl) T.z_list (by decide +kernel) (va_cons (ve_var (i := 1) rfl) va_nil)))))
      (vb0_cons (vs0_spoil (i := 7) PassesOwn.never rfl sc__law_line_right.nd rfl (hP := pl_not (by decide)) (he := (vn_cat (vn_var (i := 5) rfl) (vn_lst (vna_cons (vn_var (i := 1) rfl) vna_nil)))))
      (vb0_one (vs0_of (vs_ret (ve_callU D__law_like (hr.mono (by decide)) (by rfl) (vau_cons (ve_lst (va_cons (ve_new (vf_call D_line (hr.mono (by decide)) (by rfl) (vm_cons (ve_var (i := 0) rfl) vm_nil))) (va_cons (ve_new (vf_call D_bills_of (hr.mono (by decide)) (by rfl) (vm_cons (ve_var (i := 0) rfl) vm_nil))) (va_cons (ve_new (vf_call D_payments_of (hr.mono (by decide)) (by rfl) (vm_cons (ve_var (i := 0) rfl) vm_nil))) va_nil)))) (vau_end (vul_cons (vu_lst (vul_cons (vu_var (i := 6) rfl) (vul_cons (vu_var (i := 3) rfl) (vul_cons (vu_var (i := 4) rfl) vul_nil)))) vul_nil))))))))))))))))))
def C_line_right : FF := fnV 10 (f__law_line_right C_line C_is_int C_payments_of C_bills_of (C_like 20))
theorem dd__law_line_right (T : Txt K mg) : Def Pg w K mg base "_law_line_right" 27 ["acct"] (spV ⟨[], tb⟩ 1 C_line_right) := ok__law_line_right T (dd_line T) (dd__law_is_int T) (dd_payments_of T) (dd_bills_of T) (dd__law_like T)
theorem sc_law : FnScope ["script", "great", "cell", "jar"] ["script"] (defScope s_law) := ⟨rfl, rfl, rfl, by decide +kernel, rfl, by decide +kernel, by decide +kernel⟩
def f_law (c__law_filled : FFL) (c__law_line_right : FF) (c__law_drawn : FF) (c__law_cellwise : FFL) : FS := (sSeq (sSet 1 (eC (.int 50154415921290292141959128101272356406151908383025676706710125686351739850816495232061119618171)))
    (sSeq (sFor (iItems (eOp gAdd (eLst (aCons (eVar [] 1) aNil)) (eSl (eVar [] 0) oNone (oSome (eC (.int 6)))))) (gNm 2) (sSeq (sOwn 3 (lCallF [] 1 c__law_filled (mCons (eVar [] 2) mNil)))
    (sIf (fNot (fTru (eCallF [] 1 c__law_line_right (mCons (eCallF [0] 2 c__law_drawn (mOwn 3 (mCons (eC (.int 40)) mNil))) mNil)))) (sRet (eC (.bool false))) sNil)))
    (sRet (eCallF [] 1 c__law_line_right (mCons (eCall gTupOf (aCons (eNew (lCallF [] 1 c__law_cellwise (mCons (eVar [] 0) mNil))) aNil)) mNil)))))
theorem ok_law (T : Txt K mg) {c__law_filled : FFL} (D__law_filled : Def Pg w K mg base "_law_filled" 1 ["cell"] (spL ⟨[], tb⟩ 1 c__law_filled)) {c__law_line_right : FF} (D__law_line_right : Def Pg w K mg base "_law_line_right" 27 ["acct"] (spV ⟨[], tb⟩ 1 c__law_line_right)) {c__law_drawn : FF} (D__law_drawn : Def Pg w K mg base "_law_drawn" 4 ["jar", "upto"] (spV ⟨[0], tb⟩ 2 c__law_drawn)) {c__law_cellwise : FFL} (D__law_cellwise : Def Pg w K mg base "_law_cellwise" 3 ["script"] (spL ⟨[], tb⟩ 1 c__law_cellwise)) : Def Pg w K mg base "law" 28 ["script"] (spV ⟨[], tb⟩ 1 (fnV 4 (f_law c__law_filled c__law_line_right c__law_drawn c__law_cellwise))) :=
  def_V (N := ["script", "great", "cell", "jar"]) T.d_law sc_law fun fa cdv A outer s H E hr =>
    (vb_cons (vs_set (i := 1) sc_law.nd rfl (hP := pl_not (by decide)) (he := ve_int))
      (vb_cons (vs_for PassesOwn.never rfl (vi_seq (ve_op op_addAll ov_add (ve_lst (va_cons (ve_var (i := 1) rfl) va_nil)) (ve_slice (ve_var (i := 0) rfl) vo_none (vo_some ve_int)))) (vg_name (i := 2) sc_law.nd rfl (hP := pl_not (by decide))) (vb_cons (vs_own (i := 3) sc_law.nd rfl (hP := pl_not (by decide)) (he := (vf_call D__law_filled (hr.mono (by decide)) (by rfl) (vm_cons (ve_var (i := 2) rfl) vm_nil))))
      (vb_one (vs_if (vt_not (vt_truth (ve_call D__law_line_right (hr.mono (by decide)) (by rfl) (vm_cons (ve_call D__law_drawn (hr.mono (by decide)) (by rfl) (vm_own (i := 3) rfl (hr := (vm_cons ve_int vm_nil)))) vm_nil)))) (vb_one (vs_ret ve_bl)) vb_nil))))
      (vb_one (vs_ret (ve_call D__law_line_right (hr.mono (by decide)) (by rfl) (vm_cons (ve_callTy call_tuple_of ca_tuple (by rfl) T.z_tuple (by decide +kernel) (va_cons (ve_new (vf_call D__law_cellwise (hr.mono (by decide)) (by rfl) (vm_cons (ve_var (i := 0) rfl) vm_nil))) va_nil)) vm_nil))))))
def C_law : FF := fnV 4 (f_law C_filled C_line_right C_drawn C_cellwise)
theorem dd_law (T : Txt K mg) : Def Pg w K mg base "law" 28 ["script"] (spV ⟨[], tb⟩ 1 C_law) := ok_law T (dd__law_filled T) (dd__law_line_right T) (dd__law_drawn T) (dd__law_cellwise T)
end
/-! the head's facts -/
theorem bd_is_integer (kV doc pm : Value) (an : Option Addr) (cdv ct : Value) : ∀ us : List Value, us.length = (["value"] : List Str).length → bindArgs (PySem.W.fnOf "is_integer" "is_integer" (defArgs s_is_integer) (defBody s_is_integer) (defScope s_is_integer) .none kV doc pm an cdv ct) ⟨us, []⟩ = pure ((["value"] : List Str).zip us) := fun us hl => match us, hl with | [_], _ => rfl
theorem bd_is_sum (kV doc pm : Value) (an : Option Addr) (cdv ct : Value) : ∀ us : List Value, us.length = (["value"] : List Str).length → bindArgs (PySem.W.fnOf "is_sum" "is_sum" (defArgs s_is_sum) (defBody s_is_sum) (defScope s_is_sum) .none kV doc pm an cdv ct) ⟨us, []⟩ = pure ((["value"] : List Str).zip us) := fun us hl => match us, hl with | [_], _ => rfl
theorem bd_has_entry_form (kV doc pm : Value) (an : Option Addr) (cdv ct : Value) : ∀ us : List Value, us.length = (["value"] : List Str).length → bindArgs (PySem.W.fnOf "has_entry_form" "has_entry_form" (defArgs s_has_entry_form) (defBody s_has_entry_form) (defScope s_has_entry_form) .none kV doc pm an cdv ct) ⟨us, []⟩ = pure ((["value"] : List Str).zip us) := fun us hl => match us, hl with | [_], _ => rfl
theorem bd_names_its_bill (kV doc pm : Value) (an : Option Addr) (cdv ct : Value) : ∀ us : List Value, us.length = (["entries", "entry"] : List Str).length → bindArgs (PySem.W.fnOf "names_its_bill" "names_its_bill" (defArgs s_names_its_bill) (defBody s_names_its_bill) (defScope s_names_its_bill) .none kV doc pm an cdv ct) ⟨us, []⟩ = pure ((["entries", "entry"] : List Str).zip us) := fun us hl => match us, hl with | [_, _], _ => rfl
theorem bd_fits_account (kV doc pm : Value) (an : Option Addr) (cdv ct : Value) : ∀ us : List Value, us.length = (["value"] : List Str).length → bindArgs (PySem.W.fnOf "fits_account" "fits_account" (defArgs s_fits_account) (defBody s_fits_account) (defScope s_fits_account) .none kV doc pm an cdv ct) ⟨us, []⟩ = pure ((["value"] : List Str).zip us) := fun us hl => match us, hl with | [_], _ => rfl
theorem bd_is_index (kV doc pm : Value) (an : Option Addr) (cdv ct : Value) : ∀ us : List Value, us.length = (["entries", "value"] : List Str).length → bindArgs (PySem.W.fnOf "is_index" "is_index" (defArgs s_is_index) (defBody s_is_index) (defScope s_is_index) .none kV doc pm an cdv ct) ⟨us, []⟩ = pure ((["entries", "value"] : List Str).zip us) := fun us hl => match us, hl with | [_, _], _ => rfl
theorem bd_is_bill_index (kV doc pm : Value) (an : Option Addr) (cdv ct : Value) : ∀ us : List Value, us.length = (["entries", "value"] : List Str).length → bindArgs (PySem.W.fnOf "is_bill_index" "is_bill_index" (defArgs s_is_bill_index) (defBody s_is_bill_index) (defScope s_is_bill_index) .none kV doc pm an cdv ct) ⟨us, []⟩ = pure ((["entries", "value"] : List Str).zip us) := fun us hl => match us, hl with | [_, _], _ => rfl
theorem bd_check_account (kV doc pm : Value) (an : Option Addr) (cdv ct : Value) : ∀ us : List Value, us.length = (["account"] : List Str).length → bindArgs (PySem.W.fnOf "check_account" "check_account" (defArgs s_check_account) (defBody s_check_account) (defScope s_check_account) .none kV doc pm an cdv ct) ⟨us, []⟩ = pure ((["account"] : List Str).zip us) := fun us hl => match us, hl with | [_], _ => rfl
theorem bd_line (kV doc pm : Value) (an : Option Addr) (cdv ct : Value) : ∀ us : List Value, us.length = (["account"] : List Str).length → bindArgs (PySem.W.fnOf "line" "line" (defArgs s_line) (defBody s_line) (defScope s_line) .none kV doc pm an cdv ct) ⟨us, []⟩ = pure ((["account"] : List Str).zip us) := fun us hl => match us, hl with | [_], _ => rfl
theorem bd_along (kV doc pm : Value) (an : Option Addr) (cdv ct : Value) : ∀ us : List Value, us.length = (["account"] : List Str).length → bindArgs (PySem.W.fnOf "along" "along" (defArgs s_along) (defBody s_along) (defScope s_along) .none kV doc pm an cdv ct) ⟨us, []⟩ = pure ((["account"] : List Str).zip us) := fun us hl => match us, hl with | [_], _ => rfl
theorem bd_bills_of (kV doc pm : Value) (an : Option Addr) (cdv ct : Value) : ∀ us : List Value, us.length = (["account"] : List Str).length → bindArgs (PySem.W.fnOf "bills_of" "bills_of" (defArgs s_bills_of) (defBody s_bills_of) (defScope s_bills_of) .none kV doc pm an cdv ct) ⟨us, []⟩ = pure ((["account"] : List Str).zip us) := fun us hl => match us, hl with | [_], _ => rfl
theorem bd_bills_along (kV doc pm : Value) (an : Option Addr) (cdv ct : Value) : ∀ us : List Value, us.length = (["account"] : List Str).length → bindArgs (PySem.W.fnOf "bills_along" "bills_along" (defArgs s_bills_along) (defBody s_bills_along) (defScope s_bills_along) .none kV doc pm an cdv ct) ⟨us, []⟩ = pure ((["account"] : List Str).zip us) := fun us hl => match us, hl with | [_], _ => rfl
theorem bd_payments_of (kV doc pm : Value) (an : Option Addr) (cdv ct : Value) : ∀ us : List Value, us.length = (["account"] : List Str).length → bindArgs (PySem.W.fnOf "payments_of" "payments_of" (defArgs s_payments_of) (defBody s_payments_of) (defScope s_payments_of) .none kV doc pm an cdv ct) ⟨us, []⟩ = pure ((["account"] : List Str).zip us) := fun us hl => match us, hl with | [_], _ => rfl
theorem bd_payments_along (kV doc pm : Value) (an : Option Addr) (cdv ct : Value) : ∀ us : List Value, us.length = (["account"] : List Str).length → bindArgs (PySem.W.fnOf "payments_along" "payments_along" (defArgs s_payments_along) (defBody s_payments_along) (defScope s_payments_along) .none kV doc pm an cdv ct) ⟨us, []⟩ = pure ((["account"] : List Str).zip us) := fun us hl => match us, hl with | [_], _ => rfl
theorem bd__law_filled (kV doc pm : Value) (an : Option Addr) (cdv ct : Value) : ∀ us : List Value, us.length = (["cell"] : List Str).length → bindArgs (PySem.W.fnOf "_law_filled" "_law_filled" (defArgs s__law_filled) (defBody s__law_filled) (defScope s__law_filled) .none kV doc pm an cdv ct) ⟨us, []⟩ = pure ((["cell"] : List Str).zip us) := fun us hl => match us, hl with | [_], _ => rfl
theorem bd__law_pick (kV doc pm : Value) (an : Option Addr) (cdv ct : Value) : ∀ us : List Value, us.length = (["jar", "many"] : List Str).length → bindArgs (PySem.W.fnOf "_law_pick" "_law_pick" (defArgs s__law_pick) (defBody s__law_pick) (defScope s__law_pick) .none kV doc pm an cdv ct) ⟨us, []⟩ = pure ((["jar", "many"] : List Str).zip us) := fun us hl => match us, hl with | [_, _], _ => rfl
theorem bd__law_is_int (kV doc pm : Value) (an : Option Addr) (cdv ct : Value) : ∀ us : List Value, us.length = (["thing"] : List Str).length → bindArgs (PySem.W.fnOf "_law_is_int" "_law_is_int" (defArgs s__law_is_int) (defBody s__law_is_int) (defScope s__law_is_int) .none kV doc pm an cdv ct) ⟨us, []⟩ = pure ((["thing"] : List Str).zip us) := fun us hl => match us, hl with | [_], _ => rfl
theorem bd__law_like (kV doc pm : Value) (an : Option Addr) (cdv ct : Value) : ∀ us : List Value, us.length = (["found", "due"] : List Str).length → bindArgs (PySem.W.fnOf "_law_like" "_law_like" (defArgs s__law_like) (defBody s__law_like) (defScope s__law_like) .none kV doc pm an cdv ct) ⟨us, []⟩ = pure ((["found", "due"] : List Str).zip us) := fun us hl => match us, hl with | [_, _], _ => rfl
theorem bd__law_frame (kV doc pm : Value) (an : Option Addr) (cdv ct : Value) : ∀ us : List Value, us.length = (["jar"] : List Str).length → bindArgs (PySem.W.fnOf "_law_frame" "_law_frame" (defArgs s__law_frame) (defBody s__law_frame) (defScope s__law_frame) .none kV doc pm an cdv ct) ⟨us, []⟩ = pure ((["jar"] : List Str).zip us) := fun us hl => match us, hl with | [_], _ => rfl
theorem bd__law_slips (kV doc pm : Value) (an : Option Addr) (cdv ct : Value) : ∀ us : List Value, us.length = (["jar", "many", "tops"] : List Str).length → bindArgs (PySem.W.fnOf "_law_slips" "_law_slips" (defArgs s__law_slips) (defBody s__law_slips) (defScope s__law_slips) .none kV doc pm an cdv ct) ⟨us, []⟩ = pure ((["jar", "many", "tops"] : List Str).zip us) := fun us hl => match us, hl with | [_, _, _], _ => rfl
theorem bd__law_named (kV doc pm : Value) (an : Option Addr) (cdv ct : Value) : ∀ us : List Value, us.length = (["jar", "rows"] : List Str).length → bindArgs (PySem.W.fnOf "_law_named" "_law_named" (defArgs s__law_named) (defBody s__law_named) (defScope s__law_named) .none kV doc pm an cdv ct) ⟨us, []⟩ = pure ((["jar", "rows"] : List Str).zip us) := fun us hl => match us, hl with | [_, _], _ => rfl
theorem bd__law_many (kV doc pm : Value) (an : Option Addr) (cdv ct : Value) : ∀ us : List Value, us.length = (["jar", "upto"] : List Str).length → bindArgs (PySem.W.fnOf "_law_many" "_law_many" (defArgs s__law_many) (defBody s__law_many) (defScope s__law_many) .none kV doc pm an cdv ct) ⟨us, []⟩ = pure ((["jar", "upto"] : List Str).zip us) := fun us hl => match us, hl with | [_, _], _ => rfl
theorem bd__law_drawn (kV doc pm : Value) (an : Option Addr) (cdv ct : Value) : ∀ us : List Value, us.length = (["jar", "upto"] : List Str).length → bindArgs (PySem.W.fnOf "_law_drawn" "_law_drawn" (defArgs s__law_drawn) (defBody s__law_drawn) (defScope s__law_drawn) .none kV doc pm an cdv ct) ⟨us, []⟩ = pure ((["jar", "upto"] : List Str).zip us) := fun us hl => match us, hl with | [_, _], _ => rfl
theorem bd__law_cellwise (kV doc pm : Value) (an : Option Addr) (cdv ct : Value) : ∀ us : List Value, us.length = (["script"] : List Str).length → bindArgs (PySem.W.fnOf "_law_cellwise" "_law_cellwise" (defArgs s__law_cellwise) (defBody s__law_cellwise) (defScope s__law_cellwise) .none kV doc pm an cdv ct) ⟨us, []⟩ = pure ((["script"] : List Str).zip us) := fun us hl => match us, hl with | [_], _ => rfl
theorem bd__law_line_right (kV doc pm : Value) (an : Option Addr) (cdv ct : Value) : ∀ us : List Value, us.length = (["acct"] : List Str).length → bindArgs (PySem.W.fnOf "_law_line_right" "_law_line_right" (defArgs s__law_line_right) (defBody s__law_line_right) (defScope s__law_line_right) .none kV doc pm an cdv ct) ⟨us, []⟩ = pure ((["acct"] : List Str).zip us) := fun us hl => match us, hl with | [_], _ => rfl
theorem bd_law (kV doc pm : Value) (an : Option Addr) (cdv ct : Value) : ∀ us : List Value, us.length = (["script"] : List Str).length → bindArgs (PySem.W.fnOf "law" "law" (defArgs s_law) (defBody s_law) (defScope s_law) .none kV doc pm an cdv ct) ⟨us, []⟩ = pure ((["script"] : List Str).zip us) := fun us hl => match us, hl with | [_], _ => rfl
theorem bk_bills_of_account (kV doc pm : Value) (an : Option Addr) (cdv ct : Value) : ∀ ws : List Value, ws.length = (["account"] : List Str).length → bindArgs (PySem.W.fnOf "bills_of" "bills_of" (defArgs s_bills_of) (defBody s_bills_of) (defScope s_bills_of) .none kV doc pm an cdv ct) ⟨[], (["account"] : List Str).zip ws⟩ = pure ((["account"] : List Str).zip (permL [0] ws)) := fun ws hl => match ws, hl with | [_], _ => rfl
theorem bk_line_account (kV doc pm : Value) (an : Option Addr) (cdv ct : Value) : ∀ ws : List Value, ws.length = (["account"] : List Str).length → bindArgs (PySem.W.fnOf "line" "line" (defArgs s_line) (defBody s_line) (defScope s_line) .none kV doc pm an cdv ct) ⟨[], (["account"] : List Str).zip ws⟩ = pure ((["account"] : List Str).zip (permL [0] ws)) := fun ws hl => match ws, hl with | [_], _ => rfl
theorem bk_payments_of_account (kV doc pm : Value) (an : Option Addr) (cdv ct : Value) : ∀ ws : List Value, ws.length = (["account"] : List Str).length → bindArgs (PySem.W.fnOf "payments_of" "payments_of" (defArgs s_payments_of) (defBody s_payments_of) (defScope s_payments_of) .none kV doc pm an cdv ct) ⟨[], (["account"] : List Str).zip ws⟩ = pure ((["account"] : List Str).zip (permL [0] ws)) := fun ws hl => match ws, hl with | [_], _ => rfl
end G

namespace VL
open PySem PySem.Spec PyProof.Rows L2 G
theorem log2_of {n k : Nat} (h : n < 2 ^ k) (hk : 0 < k) : n.log2 < k := by
  by_cases h0 : n = 0
  · subst h0
    simpa using hk
  · exact (Nat.log2_lt h0).mpr h
theorem mul_ok {i j : Int} {a b : Nat} (hi : i.natAbs < 2 ^ a) (hj : j.natAbs < 2 ^ b) (ha : 0 < a) (hb : 0 < b) (h : a + b ≤ 1000000) : decide (i.natAbs.log2 + j.natAbs.log2 < 1000000) = true := by
  have h1 := log2_of hi ha
  have h2 := log2_of hj hb
  exact decide_eq_true (by omega)
theorem mul_lt {i j : Int} {a b : Nat} (hi : i.natAbs < 2 ^ a) (hj : j.natAbs < 2 ^ b) : (i * j).natAbs < 2 ^ (a + b) := by
  rw [Int.natAbs_mul, Nat.pow_add]
  exact Nat.mul_lt_mul'' hi hj
/-- the jar behind at most n looks -/
def JB (n : Nat) (js : List D) : Prop := ∃ a b c : Int, js = [.int a, .int b, .int c] ∧ 0 ≤ b ∧ b ≤ n ∧ 0 ≤ c ∧ c < 2147483629
theorem s_filled (c : Int) : O2 (C_filled [.va (.int c)]) fun ds en => en = [.va (.int c)] ∧ JB 0 ds := by
  refine w_fnL 1 ?_
  try simp only [List.length_cons, List.length_nil, Nat.reduceAdd, Nat.reduceSub, List.replicate_succ, List.replicate_zero, List.cons_append, List.nil_append]
  unfold f__law_filled
  refine st_ ?_
  refine ⟨rfl, _, _, _, rfl, by decide, by decide, Int.emod_nonneg _ (by decide), Int.emod_lt_of_pos _ (by decide)⟩
theorem s_pick {n : Nat} {js : List D} {m : Int} (hj : JB n js) (hn : n ≤ 1000000000) (h1 : 1 ≤ m) (h2 : m < 10 ^ 40) :
    O2 (C_pick [.ow js, .va (.int m)]) fun d en => ∃ r js' s, d = .int r ∧ en = .ow js' :: s ∧ JB (n + 1) js' ∧ 0 ≤ r ∧ r < m := by
  obtain ⟨a, b, c, rfl, hb0, hb, hc0, hc⟩ := hj
  have hm : m.natAbs.log2 < 1920 := by
    refine log2_of (Nat.lt_of_lt_of_le (show m.natAbs < 10 ^ 40 by omega) (by decide +kernel)) (by decide)
  refine w_fn 6 ?_
  try simp only [List.length_cons, List.length_nil, Nat.reduceAdd, Nat.reduceSub, List.replicate_succ, List.replicate_zero, List.cons_append, List.nil_append]
  unfold f__law_pick
  refine st_ ?_
  refine ⟨fun ha => ?_, fun ha => ?_⟩
  · refine st_ ?_
    refine w_ii (decide_eq_true ⟨by omega, by omega⟩) ?_
    refine st_ ?_
    refine w_ii (decide_eq_true (by omega)) ?_
    refine st_ ?_
    exact ⟨_, _, _, rfl, rfl, ⟨_, _, _, rfl, by omega, by omega, hc0, hc⟩, Int.emod_nonneg _ (by omega), Int.emod_lt_of_pos _ (by omega)⟩
  · refine st_ ?_
    refine O1.of (x := gStr _) (if_pos hm) ?_
    have hl := PyProof.Rows.int_text_len_1921 hm
    refine st_ ?_
    refine O1.of (x := gLen _) (if_pos (Nat.le_trans hl (by decide))) ?_
    refine st_ ?_
    have hq : (1 + ((Str.ofString (toString m)).length : Int) / 8) ≤ 300 ∧ 0 ≤ ((Str.ofString (toString m)).length : Int) / 8 := by omega
    generalize ((Str.ofString (toString m)).length : Int) / 8 = q at hq
    refine ⟨⟨by omega, by omega⟩, ?_⟩
    refine w_forD (fun i en => ∃ (f : Int) (s3 s5 : Sl), en = [.ow [.int a, .int (b + 1), .int c], .va (.int m), .va (.int f), s3, .un, s5] ∧ 0 ≤ f ∧ f.natAbs < 2 ^ (28 * (i + 1))) _ 0 _ ⟨0, _, _, rfl, by decide, by decide⟩ (fun i t en et hI => ?_) fun en hI => ?_
    · obtain ⟨f, s3, s5, rfl, hf0, hf⟩ := hI
      have ht : t < (1 + q).toNat := by
        have := (List.getElem?_eq_some_iff.mp et).1
        have e2 := (List.getElem?_eq_some_iff.mp et).2
        rw [List.length_range] at this
        rw [List.getElem_range] at e2
        omega
      have hi : i < 300 := by
        have := (List.getElem?_eq_some_iff.mp et).1
        rw [List.length_range] at this
        omega
      have ht0 : 0 + (t : Int) ≤ 300 := by omega
      have ht1 : 0 ≤ 0 + (t : Int) := by omega
      generalize 0 + (t : Int) = tt at ht0 ht1
      refine w_turn ?_
      refine st_ ?_
      try simp only [List.set_cons_zero, List.set_cons_succ, List.map_cons, List.map_nil, mdSl, putBack, wipeE, permL, List.filterMap_cons, List.filterMap_nil, List.getElem?_cons_zero, List.getElem?_cons_succ]
      refine w_ii (mul_ok (a := 13) (b := 32) (by decide) (by omega) (by decide) (by decide) (by decide)) ?_
      refine st_ ?_
      refine w_ii (mul_ok (a := 45) (b := 32) (mul_lt (a := 13) (b := 32) (by decide) (by omega)) (by omega) (by decide) (by decide) (by decide)) ?_
      refine st_ ?_
      refine w_ii (mul_ok (a := 13) (b := 32) (by decide) (by omega) (by decide) (by decide) (by decide)) ?_
      refine st_ ?_
      have g1 := Int.emod_nonneg (c + 7919 * (b + 1) * (b + 1) + 31 * tt + 1) (show (2147483629 : Int) ≠ 0 by decide)
      have g2 := Int.emod_lt_of_pos (c + 7919 * (b + 1) * (b + 1) + 31 * tt + 1) (show (0 : Int) < 2147483629 by decide)
      generalize (c + 7919 * (b + 1) * (b + 1) + 31 * tt + 1) % 2147483629 = u at g1 g2
      try simp only [List.set_cons_zero, List.set_cons_succ, List.map_cons, List.map_nil, mdSl, putBack, wipeE, permL, List.filterMap_cons, List.filterMap_nil, List.getElem?_cons_zero, List.getElem?_cons_succ]
      refine w_ii (mul_ok (a := 32) (b := 32) (by omega) (by omega) (by decide) (by decide) (by decide)) ?_
      refine st_ ?_
      refine w_ii (mul_ok (a := 16) (b := 32) (by decide) (by omega) (by decide) (by decide) (by decide)) ?_
      refine st_ ?_
      have g3 := Int.emod_nonneg (u * u + 48271 * (b + 1) + tt) (show (2147483647 : Int) ≠ 0 by decide)
      have g4 := Int.emod_lt_of_pos (u * u + 48271 * (b + 1) + tt) (show (0 : Int) < 2147483647 by decide)
      generalize (u * u + 48271 * (b + 1) + tt) % 2147483647 = u2 at g3 g4
      try simp only [List.set_cons_zero, List.set_cons_succ, List.map_cons, List.map_nil, mdSl, putBack, wipeE, permL, List.filterMap_cons, List.filterMap_nil, List.getElem?_cons_zero, List.getElem?_cons_succ]
      refine w_ii (mul_ok (a := 32) (b := 32) (by omega) (by omega) (by decide) (by decide) (by decide)) ?_
      refine st_ ?_
      have g5 := Int.emod_nonneg (u2 * u2) (show (2147483587 : Int) ≠ 0 by decide)
      have g6 := Int.emod_lt_of_pos (u2 * u2) (show (0 : Int) < 2147483587 by decide)
      generalize (u2 * u2) % 2147483587 = u3 at g5 g6
      try simp only [List.set_cons_zero, List.set_cons_succ, List.map_cons, List.map_nil, mdSl, putBack, wipeE, permL, List.filterMap_cons, List.filterMap_nil, List.getElem?_cons_zero, List.getElem?_cons_succ]
      refine w_ii (mul_ok (a := 28 * (0 + i + 1)) (b := 27) hf (by decide) (by omega) (by decide) (by omega)) ?_
      refine st_ ?_
      refine ⟨_, rfl, f * 100000007 + u3 / 8, _, _, rfl, by omega, ?_⟩
      have g7 : (f * 100000007 + u3 / 8).natAbs = f.natAbs * 100000007 + (u3 / 8).natAbs := by omega
      have g8 : (u3 / 8).natAbs < 2 ^ 29 := by omega
      have g9 : 28 * (0 + i + 1 + 1) = 28 * (0 + i + 1) + 28 := by omega
      rw [g7, g9, Nat.pow_add]
      have g10 : 2 ^ 28 ≤ 2 ^ (28 * (0 + i + 1)) := Nat.pow_le_pow_right (by decide) (by omega)
      generalize 2 ^ (28 * (0 + i + 1)) = X at hf g10
      omega
    · obtain ⟨f, s3, s5, rfl, hf0, hf⟩ := hI
      refine st_ ?_
      refine w_ii (decide_eq_true (by omega)) ?_
      refine st_ ?_
      exact ⟨_, _, _, rfl, rfl, ⟨_, _, _, rfl, by omega, by omega, hc0, hc⟩, Int.emod_nonneg _ (by omega), Int.emod_lt_of_pos _ (by omega)⟩
end VL

namespace VL
open PySem PySem.Spec PyProof.Rows L2 G
theorem JB.mono {n m : Nat} {js : List D} (h : JB n js) (hn : n ≤ m) : JB m js := by
  obtain ⟨a, b, c, e, h1, h2, h3⟩ := h
  exact ⟨a, b, c, e, h1, by omega, h3⟩
theorem atI_nat {α : Type} {xs : List α} {r : Int} (h0 : 0 ≤ r) (h1 : r < xs.length) : ∃ d, L2.atI xs r = some d ∧ xs[r.toNat]? = some d := by
  unfold L2.atI L2.ixN
  rw [if_pos h0, if_pos (by omega)]
  have : r.toNat < xs.length := by omega
  exact ⟨xs[r.toNat], by simp [List.getElem?_eq_getElem this], List.getElem?_eq_getElem this⟩
theorem w_ixL {ds : List D} {r : Int} {QU : D → Prop} (h0 : 0 ≤ r) (h1 : r < ds.length) (q : ∀ d, ds[r.toNat]? = some d → QU d) : O1 (gIx (.list ds) (.int r)) QU := by
  obtain ⟨d, e1, e2⟩ := atI_nat h0 h1
  exact ⟨d, e1, q d e2⟩
theorem w_ixT {ds : List D} {r : Int} {QU : D → Prop} (h0 : 0 ≤ r) (h1 : r < ds.length) (q : ∀ d, ds[r.toNat]? = some d → QU d) : O1 (gIx (.tuple ds) (.int r)) QU := by
  obtain ⟨d, e1, e2⟩ := atI_nat h0 h1
  exact ⟨d, e1, q d e2⟩
inductive Ent where
  | bill (d s : Int) | pay (d s : Int) | named (d s : Int) (b : Nat) | struck
def Ent.D : Ent → D
  | .bill d s => .tuple [.str (Str.ofString "bill"), .int d, .int s]
  | .pay d s => .tuple [.str (Str.ofString "pay"), .int d, .int s]
  | .named d s b => .tuple [.str (Str.ofString "named"), .int d, .int s, .int b]
  | .struck => .tuple [.str (Str.ofString "struck")]
def NumOk (d s : Int) : Prop := -2000000 ≤ d ∧ d ≤ 3000000 ∧ 1 ≤ s ∧ s ≤ 10 ^ 30
/-- an entry as it is drawn -/
def RowOk : Ent → Prop
  | .bill d s => NumOk d s
  | .pay d s => NumOk d s
  | .named _ _ _ => False
  | .struck => True
theorem s_frame {n : Nat} {js : List D} (hj : JB n js) (hn : n ≤ 1000000000) :
    O2 (C_frame [.ow js]) fun d en => ∃ lo sp js' s, d = .tuple [.int lo, .int sp] ∧ en = .ow js' :: s ∧ JB (n + 1) js' ∧ -1000000 ≤ lo ∧ lo ≤ 1000000 ∧ 1 ≤ sp ∧ sp ≤ 2000000 := by
  refine w_fn 4 ?_
  try simp only [List.length_cons, List.length_nil, Nat.reduceAdd, Nat.reduceSub, List.replicate_succ, List.replicate_zero, List.cons_append, List.nil_append]
  unfold f__law_frame
  refine st_ ?_
  refine (s_pick hj hn (by decide) (by decide)).mono ?_
  rintro _ _ ⟨r, js', s, rfl, rfl, hJ, h0, h1⟩
  refine st_ ?_
  try simp only [List.set_cons_zero, List.set_cons_succ, List.map_cons, List.map_nil, mdSl, putBack, wipeE, permL, List.filterMap_cons, List.filterMap_nil, List.getElem?_cons_zero, List.getElem?_cons_succ]
  refine w_ixL h0 (by simpa using h1) fun lo e1 => ?_
  refine st_ ?_
  refine w_ixL h0 (by simpa using h1) fun sp e2 => ?_
  refine st_ ?_
  have m1 := List.mem_of_getElem? e1
  have m2 := List.mem_of_getElem? e2
  clear e1 e2
  have l1 : ∃ x : Int, lo = .int x ∧ -1000000 ≤ x ∧ x ≤ 1000000 := by
    simp only [List.mem_cons, List.not_mem_nil, or_false] at m1
    rcases m1 with rfl | rfl | rfl | rfl | rfl | rfl | rfl <;> exact ⟨_, rfl, by decide, by decide⟩
  have l2 : ∃ x : Int, sp = .int x ∧ 1 ≤ x ∧ x ≤ 2000000 := by
    simp only [List.mem_cons, List.not_mem_nil, or_false] at m2
    rcases m2 with rfl | rfl | rfl | rfl | rfl | rfl | rfl <;> exact ⟨_, rfl, by decide, by decide⟩
  obtain ⟨x, rfl, hx1, hx2⟩ := l1
  obtain ⟨y, rfl, hy1, hy2⟩ := l2
  exact ⟨x, y, js', _, rfl, rfl, hJ, hx1, hx2, hy1, hy2⟩
theorem s_slips {n : Nat} {js : List D} {many : Int} {ts : List Int} (hj : JB n js) (hn : n ≤ 100000000) (h0 : 0 ≤ many) (h1 : many ≤ 1000) (ht : ts ≠ []) (ht1 : ts.length ≤ 1000) (ht2 : ∀ t ∈ ts, 1 ≤ t ∧ t < 10 ^ 30) :
    O2 (C_slips [.ow js, .va (.int many), .va (.list (ts.map .int))]) fun ds en => ∃ (rows : List Ent) (js' : List D) (s : En), ds = rows.map Ent.D ∧ rows.length = many.toNat ∧ (∀ e ∈ rows, RowOk e) ∧ en = .ow js' :: s ∧ JB (n + 3 + 5 * many.toNat) js' := by
  have hl : 1 ≤ ((ts.map PyData.int).length : Int) := by
    cases ts with
    | nil => exact absurd rfl ht
    | cons t r => simp; omega
  have hl2 : ((ts.map PyData.int).length : Int) ≤ 1000 := by rw [List.length_map]; omega
  have htop : ∀ (r : Int) (d : D), (ts.map PyData.int)[r.toNat]? = some d → ∃ t, d = .int t ∧ 1 ≤ t ∧ t < 10 ^ 30 := fun r d e => by
    have := List.mem_of_getElem? e
    rw [List.mem_map] at this
    obtain ⟨t, m, rfl⟩ := this
    exact ⟨t, rfl, ht2 t m⟩
  refine w_fnL 11 ?_
  try simp only [List.length_cons, List.length_nil, Nat.reduceAdd, Nat.reduceSub, List.replicate_succ, List.replicate_zero, List.cons_append, List.nil_append]
  unfold f__law_slips
  refine st_ ?_
  refine (s_frame hj (by omega)).mono ?_
  rintro _ _ ⟨lo, sp, js1, s1, rfl, rfl, hJ1, hlo, hlo2, hsp, hsp2⟩
  refine st_ ?_
  try simp only [List.set_cons_zero, List.set_cons_succ, List.map_cons, List.map_nil, mdSl, putBack, wipeE, permL, List.filterMap_cons, List.filterMap_nil, List.getElem?_cons_zero, List.getElem?_cons_succ]
  refine st_ ?_
  refine (s_pick hJ1 (by omega) hl (by omega)).mono ?_
  rintro _ _ ⟨r, js2, s2, rfl, rfl, hJ2, hr0, hr1⟩
  refine st_ ?_
  refine w_ixL hr0 hr1 fun top et => ?_
  obtain ⟨top, rfl, hto1, hto2⟩ := htop r top et
  refine st_ ?_
  try simp only [List.set_cons_zero, List.set_cons_succ, List.map_cons, List.map_nil, mdSl, putBack, wipeE, permL, List.filterMap_cons, List.filterMap_nil, List.getElem?_cons_zero, List.getElem?_cons_succ]
  refine (s_pick hJ2 (by omega) (by decide) (by decide)).mono ?_
  rintro _ _ ⟨r2, js3, s3, rfl, rfl, hJ3, hr20, hr21⟩
  refine st_ ?_
  try simp only [List.set_cons_zero, List.set_cons_succ, List.map_cons, List.map_nil, mdSl, putBack, wipeE, permL, List.filterMap_cons, List.filterMap_nil, List.getElem?_cons_zero, List.getElem?_cons_succ]
  generalize PyData.eqv (.int r2) (.int 1) = mixed
  refine st_ ?_
  refine ⟨⟨by omega, by omega⟩, ?_⟩
  try simp only [List.set_cons_zero, List.set_cons_succ, List.map_cons, List.map_nil, mdSl, putBack, wipeE, permL, List.filterMap_cons, List.filterMap_nil, List.getElem?_cons_zero, List.getElem?_cons_succ]
  refine w_forD (fun i en => ∃ (rows : List Ent) (js' : List D) (tp : Int) (s8 s9 s10 : Sl), en = [.ow js', .va (.int many), .va (.list (ts.map .int)), .va (.int lo), .va (.int sp), .va (.int tp), .va (.bool mixed), .ow (rows.map Ent.D), s8, s9, s10] ∧
    rows.length = i ∧ (∀ e ∈ rows, RowOk e) ∧ JB (n + 3 + 5 * i) js' ∧ 1 ≤ tp ∧ tp < 10 ^ 30) _ 0 _ ⟨[], _, _, _, _, _, rfl, rfl, by simp, hJ3.mono (by omega), hto1, hto2⟩ (fun i t en et hI => ?_) fun en hI => ?_
  · obtain ⟨rows, js4, tp, s8, s9, s10, rfl, hr, hrow, hJ4, htp1, htp2⟩ := hI
    have hi : i < many.toNat := by
      have := (List.getElem?_eq_some_iff.mp et).1
      rw [List.length_range] at this
      exact this
    clear et
    refine w_turn ?_
    refine st_ ?_
    try simp only [List.set_cons_zero, List.set_cons_succ, List.map_cons, List.map_nil, mdSl, putBack, wipeE, permL, List.filterMap_cons, List.filterMap_nil, List.getElem?_cons_zero, List.getElem?_cons_succ]
    refine (s_pick hJ4 (by omega) (by decide) (by decide)).mono ?_
    rintro _ _ ⟨w, js5, s5, rfl, rfl, hJ5, hw0, hw1⟩
    refine sti_ ?_
    try simp only [List.set_cons_zero, List.set_cons_succ, List.map_cons, List.map_nil, mdSl, putBack, wipeE, permL, List.filterMap_cons, List.filterMap_nil, List.getElem?_cons_zero, List.getElem?_cons_succ]
    refine w_seq (O1.mono (Q := fun o => ∃ (js6 : List D) (tp : Int), o = .nx [.ow js6, .va (.int many), .va (.list (ts.map .int)), .va (.int lo), .va (.int sp), .va (.int tp), .va (.bool mixed), .ow (rows.map Ent.D), .va (.int (0 + (t : Int))), .va (.int w), s10] ∧ JB (n + 5 + 5 * i) js6 ∧ 1 ≤ tp ∧ tp < 10 ^ 30) ?_ ?_)
    · refine st_ ?_
      refine ⟨fun _ => ?_, fun _ => ?_⟩
      · refine st_ ?_
        try simp only [List.set_cons_zero, List.set_cons_succ, List.map_cons, List.map_nil, mdSl, putBack, wipeE, permL, List.filterMap_cons, List.filterMap_nil, List.getElem?_cons_zero, List.getElem?_cons_succ]
        refine (s_pick hJ5 (by omega) hl (by omega)).mono ?_
        rintro _ _ ⟨r, js6, s6, rfl, rfl, hJ6, hr0, hr1⟩
        refine st_ ?_
        refine w_ixL hr0 hr1 fun top et => ?_
        obtain ⟨top, rfl, hto1, hto2⟩ := htop r top et
        refine st_ ?_
        exact ⟨js6, top, rfl, hJ6.mono (by omega), hto1, hto2⟩
      · refine st_ ?_
        exact ⟨js5, tp, rfl, hJ5.mono (by omega), htp1, htp2⟩
    rintro _ ⟨js6, tp, rfl, hJ6, htp1, htp2⟩
    refine st_ ?_
    refine w_ixL (Int.emod_nonneg _ (by decide)) (by
      have := Int.emod_lt_of_pos w (show (0 : Int) < 2 by decide)
      simpa using this) fun wd ew => ?_
    have hw : wd = .str (Str.ofString "bill") ∨ wd = .str (Str.ofString "pay") := by
      have := List.mem_of_getElem? ew
      simpa using this
    clear ew
    refine st_ ?_
    try simp only [List.set_cons_zero, List.set_cons_succ, List.map_cons, List.map_nil, mdSl, putBack, wipeE, permL, List.filterMap_cons, List.filterMap_nil, List.getElem?_cons_zero, List.getElem?_cons_succ]
    refine (s_pick hJ6 (by omega) hsp (by omega)).mono ?_
    rintro _ _ ⟨r7, js7, s7, rfl, rfl, hJ7, hr70, hr71⟩
    refine st_ ?_
    try simp only [List.set_cons_zero, List.set_cons_succ, List.map_cons, List.map_nil, mdSl, putBack, wipeE, permL, List.filterMap_cons, List.filterMap_nil, List.getElem?_cons_zero, List.getElem?_cons_succ]
    refine (s_pick hJ7 (by omega) htp1 (by omega)).mono ?_
    rintro _ _ ⟨r8, js8, s8', rfl, rfl, hJ8, hr80, hr81⟩
    refine sti_ ?_
    try simp only [List.set_cons_zero, List.set_cons_succ, List.map_cons, List.map_nil, mdSl, putBack, wipeE, permL, List.filterMap_cons, List.filterMap_nil, List.getElem?_cons_zero, List.getElem?_cons_succ]
    have row : ∃ e : Ent, .tuple [wd, .int (lo + r7), .int (1 + r8)] = e.D ∧ RowOk e := by
      have hn : NumOk (lo + r7) (1 + r8) := ⟨by omega, by omega, by omega, by omega⟩
      rcases hw with rfl | rfl
      · exact ⟨.bill _ _, rfl, hn⟩
      · exact ⟨.pay _ _, rfl, hn⟩
    obtain ⟨e, he, hok⟩ := row
    rw [he]
    refine sti_ ?_
    try simp only [List.set_cons_zero, List.set_cons_succ, List.map_cons, List.map_nil, mdSl, putBack, wipeE, permL, List.filterMap_cons, List.filterMap_nil, List.getElem?_cons_zero, List.getElem?_cons_succ]
    refine w_seq (O1.mono (Q := fun o => ∃ (js9 : List D) (e : Ent), o = .nx [.ow js9, .va (.int many), .va (.list (ts.map .int)), .va (.int lo), .va (.int sp), .va (.int tp), .va (.bool mixed), .ow (rows.map Ent.D), .va (.int (0 + (t : Int))), .va (.int w), .va e.D] ∧ JB (n + 8 + 5 * i) js9 ∧ RowOk e) ?_ ?_)
    · refine st_ ?_
      refine ⟨fun _ => ?_, fun _ => ?_⟩
      · refine st_ ?_
        try simp only [List.set_cons_zero, List.set_cons_succ, List.map_cons, List.map_nil, mdSl, putBack, wipeE, permL, List.filterMap_cons, List.filterMap_nil, List.getElem?_cons_zero, List.getElem?_cons_succ]
        refine (s_pick hJ8 (by omega) (by decide) (by decide)).mono ?_
        rintro _ _ ⟨r9, js9, s9', rfl, rfl, hJ9, hr90, hr91⟩
        refine st_ ?_
        refine ⟨fun _ => ?_, fun _ => ?_⟩
        · refine st_ ?_
          exact ⟨js9, .struck, rfl, hJ9.mono (by omega), trivial⟩
        · refine st_ ?_
          exact ⟨js9, e, rfl, hJ9.mono (by omega), hok⟩
      · refine st_ ?_
        exact ⟨js8, e, rfl, hJ8.mono (by omega), hok⟩
    rintro _ ⟨js9, e, rfl, hJ9, hok⟩
    refine st_ ?_
    refine ⟨by rw [List.length_map]; exact Nat.lt_of_lt_of_le (show rows.length < 1001 by omega) (by decide), ?_⟩
    refine ⟨_, rfl, rows ++ [e], js9, tp, _, _, _, by rw [List.map_append]; rfl, by rw [List.length_append]; simp only [List.length_cons, List.length_nil]; omega, fun x hx => ?_, hJ9.mono (by omega), htp1, htp2⟩
    rw [List.mem_append] at hx
    rcases hx with hx | hx
    · exact hrow x hx
    · rw [List.mem_singleton] at hx
      rw [hx]
      exact hok
  · obtain ⟨rows, js4, tp, s8, s9, s10, rfl, hr, hrow, hJ4, htp1, htp2⟩ := hI
    have hlen : (List.range many.toNat).length = many.toNat := List.length_range
    refine st_ ?_
    exact ⟨rows, _, _, rfl, by rw [hr, hlen]; omega, hrow, rfl, hJ4.mono (by rw [hlen]; omega)⟩
end VL

namespace VL
open PySem PySem.Spec PyProof.Rows L2 G
theorem ints_lay : ∀ ns : List Int, PyData.canLayAll0 (ns.map .int) = true
  | [] => by simp only [List.map_nil, PyData.canLayAll0]
  | n :: ns => by simp only [List.map_cons, PyData.canLayAll0, PyData.canLay0, Bool.true_and, ints_lay ns]
theorem ints_depth : ∀ ns : List Int, PyData.depthAll (ns.map .int) = 0
  | [] => by simp only [List.map_nil, PyData.depthAll]
  | n :: ns => by simp [PyData.depthAll, PyData.depth, ints_depth ns]
theorem ints_shaped (ns : List Int) : SeqAt.shaped (.list (ns.map .int)) = true := by
  simp [SeqAt.shaped, PyData.canLay0, PyData.depth, ints_lay, ints_depth]
theorem eqv_ints : ∀ ns ms : List Int, PyData.eqvAll (ns.map .int) (ms.map .int) = decide (ns = ms)
  | [], [] => by simp [PyData.eqvAll]
  | [], m :: ms => by simp [PyData.eqvAll]
  | n :: ns, [] => by simp [PyData.eqvAll]
  | n :: ns, m :: ms => by
    simp only [List.map_cons, PyData.eqvAll, PyData.eqv, eqv_ints ns ms, List.cons.injEq]
    by_cases h : n = m <;> simp [h]
def Ent.word : Ent → Str
  | .bill _ _ => Str.ofString "bill"
  | .pay _ _ => Str.ofString "pay"
  | .named _ _ _ => Str.ofString "named"
  | .struck => Str.ofString "struck"
def Ent.isBill : Ent → Bool
  | .bill _ _ => true
  | _ => false
def Ent.isPay : Ent → Bool
  | .pay _ _ => true
  | _ => false
def Ent.isNamed : Ent → Bool
  | .named _ _ _ => true
  | _ => false
def Ent.isStruck : Ent → Bool
  | .struck => true
  | _ => false
def Ent.day : Ent → Int
  | .bill d _ => d
  | .pay d _ => d
  | .named d _ _ => d
  | .struck => 0
def Ent.sum : Ent → Int
  | .bill _ s => s
  | .pay _ s => s
  | .named _ s _ => s
  | .struck => 0
theorem Ent.ix0 (e : Ent) : gIx e.D (.int 0) = some (.str e.word) := by cases e <;> rfl
theorem Ent.ix1 {e : Ent} (h : e.isStruck = false) : gIx e.D (.int 1) = some (.int e.day) := by
  cases e <;> first | rfl | cases h
theorem Ent.ix2 {e : Ent} (h : e.isStruck = false) : gIx e.D (.int 2) = some (.int e.sum) := by
  cases e <;> first | rfl | cases h
theorem str_shaped {x : Str} (h : PyData.strOk x = true) : SeqAt.shaped (.str x) = true := by
  simp [SeqAt.shaped, PyData.canLay0, PyData.depth, h]
theorem Ent.word_shaped (e : Ent) : SeqAt.shaped (.str e.word) = true := by cases e <;> simp only [Ent.word, Ent.isBill, Ent.isPay, Ent.isNamed, Ent.isStruck] <;> decide +kernel
theorem Ent.eq_bill (e : Ent) : PyData.eqv (.str e.word) (.str (Str.ofString "bill")) = e.isBill := by cases e <;> simp only [Ent.word, Ent.isBill, Ent.isPay, Ent.isNamed, Ent.isStruck] <;> decide +kernel
theorem Ent.eq_pay (e : Ent) : PyData.eqv (.str e.word) (.str (Str.ofString "pay")) = e.isPay := by cases e <;> simp only [Ent.word, Ent.isBill, Ent.isPay, Ent.isNamed, Ent.isStruck] <;> decide +kernel
theorem Ent.eq_named (e : Ent) : PyData.eqv (.str e.word) (.str (Str.ofString "named")) = e.isNamed := by cases e <;> simp only [Ent.word, Ent.isBill, Ent.isPay, Ent.isNamed, Ent.isStruck] <;> decide +kernel
theorem Ent.eq_struck (e : Ent) : PyData.eqv (.str e.word) (.str (Str.ofString "struck")) = e.isStruck := by cases e <;> simp only [Ent.word, Ent.isBill, Ent.isPay, Ent.isNamed, Ent.isStruck] <;> decide +kernel
/-- an entry of an account -/
def EntOk (es : List Ent) : Ent → Prop
  | .bill d s => NumOk d s
  | .pay d s => NumOk d s
  | .named d s b => NumOk d s ∧ ∃ d' s', es[b]? = some (.bill d' s') ∧ d' ≤ d
  | .struck => True
def AccOk (es : List Ent) : Prop := ∀ e ∈ es, EntOk es e
theorem atI_map {es : List Ent} {i : Nat} {e : Ent} (h : es[i]? = some e) : L2.atI (es.map Ent.D) (i : Int) = some e.D := by
  have hl := (List.getElem?_eq_some_iff.mp h).1
  unfold L2.atI L2.ixN
  rw [if_pos (by omega), if_pos (by rw [List.length_map]; omega)]
  simp [h]
theorem ixN_map {es : List Ent} {i : Nat} (h : i < es.length) : L2.ixN (es.map Ent.D).length (i : Int) = some i := by
  unfold L2.ixN
  rw [if_pos (by omega), if_pos (by rw [List.length_map]; omega)]
  simp
theorem EntOk.set {es : List Ent} {i : Nat} {x y : Ent} {d s : Int} (h : es[i]? = some (.pay d s)) (hx : EntOk es x) : EntOk (es.set i y) x := by
  cases x with
  | named d1 s1 b =>
    obtain ⟨h1, d', s', h2, h3⟩ := hx
    refine ⟨h1, d', s', ?_, h3⟩
    have : i ≠ b := fun z => by
      subst z
      rw [h] at h2
      cases h2
    rw [List.getElem?_set_ne this]
    exact h2
  | _ => exact hx
theorem s_named {n : Nat} {js : List D} {rows : List Ent} (hj : JB n js) (hn : n ≤ 100000000) (hl : rows.length ≤ 1000) (hr : ∀ e ∈ rows, RowOk e) :
    O2 (C_named [.ow js, .va (.list (rows.map Ent.D))]) fun d en => ∃ (es : List Ent) (js' : List D) (s : En), d = .tuple (es.map Ent.D) ∧ es.length = rows.length ∧ AccOk es ∧ en = .ow js' :: s ∧ JB (n + 2 * rows.length) js' := by
  refine w_fn 6 ?_
  try simp only [List.length_cons, List.length_nil, Nat.reduceAdd, Nat.reduceSub, List.replicate_succ, List.replicate_zero, List.cons_append, List.nil_append]
  unfold f__law_named
  refine st_ ?_
  refine ⟨by rw [List.length_map]; exact ⟨by omega, by omega⟩, ?_⟩
  try simp only [List.set_cons_zero, List.set_cons_succ, List.map_cons, List.map_nil, mdSl, putBack, wipeE, permL, List.filterMap_cons, List.filterMap_nil, List.getElem?_cons_zero, List.getElem?_cons_succ]
  refine w_forD (fun i en => ∃ (es : List Ent) (js' : List D) (s3 s4 : Sl), en = [.ow js', .va (.list (rows.map Ent.D)), .ow (es.map Ent.D), s3, s4, .un] ∧
    es.length = rows.length ∧ AccOk es ∧ JB (n + 2 * i) js') _ 0 _ ⟨rows, _, _, _, rfl, rfl, fun e he => by
      have := hr e he
      cases e <;> first | exact this | exact this.elim, hj.mono (by omega)⟩ (fun i t en et hI => ?_) fun en hI => ?_
  · obtain ⟨es, js4, s3, s4, rfl, hes, hok, hJ4⟩ := hI
    have ht : t = i ∧ i < rows.length := by
      have e1 := (List.getElem?_eq_some_iff.mp et).1
      have e2 := (List.getElem?_eq_some_iff.mp et).2
      rw [List.length_range] at e1
      rw [List.getElem_range] at e2
      rw [List.length_map] at e1
      omega
    obtain ⟨rfl, ht⟩ := ht
    clear et
    obtain ⟨e, he⟩ : ∃ e, es[t]? = some e := ⟨es[t]'(by omega), List.getElem?_eq_getElem (by omega)⟩
    have hlt : (es.map Ent.D).length = es.length := List.length_map _
    refine w_turn ?_
    refine st_ ?_
    try simp only [List.set_cons_zero, List.set_cons_succ, List.map_cons, List.map_nil, mdSl, putBack, wipeE, permL, List.filterMap_cons, List.filterMap_nil, List.getElem?_cons_zero, List.getElem?_cons_succ]
    rw [Int.zero_add]
    refine x_get rfl (atI_map he) ?_
    refine st_ ?_
    refine O1.of e.ix0 ?_
    refine st_ ?_
    refine w_geq e.word_shaped (by decide +kernel) ?_
    rw [e.eq_pay]
    refine st_ ?_
    refine ⟨fun hp => ?_, fun hp => ?_⟩
    · have hep : ∃ d s, e = .pay d s := by
        cases e <;> first | exact ⟨_, _, rfl⟩ | cases hp
      obtain ⟨d, s, rfl⟩ := hep
      have hds : NumOk d s := hok _ (List.mem_of_getElem? he)
      refine st_ ?_
      refine (s_pick hJ4 (by omega) (by decide) (by decide)).mono ?_
      rintro _ _ ⟨r, js5, s5, rfl, rfl, hJ5, hr0, hr1⟩
      refine st_ ?_
      try simp only [List.set_cons_zero, List.set_cons_succ, List.map_cons, List.map_nil, mdSl, putBack, wipeE, permL, List.filterMap_cons, List.filterMap_nil, List.getElem?_cons_zero, List.getElem?_cons_succ]
      refine ⟨fun _ => ?_, fun _ => ?_⟩
      · refine sti_ ?_
        refine ⟨by rw [List.length_map]; exact ⟨by omega, by omega⟩, ?_⟩
        try simp only [List.set_cons_zero, List.set_cons_succ, List.map_cons, List.map_nil, mdSl, putBack, wipeE, permL, List.filterMap_cons, List.filterMap_nil, List.getElem?_cons_zero, List.getElem?_cons_succ]
        let q : Nat → Option Int := fun a => match es[a]? with
          | some (.bill d' _) => if d' ≤ d then some (a : Int) else none
          | _ => none
        refine w_compD (fun a => (q a).map PyData.int) (by rw [List.length_range, List.length_map]; exact Nat.le_trans (show _ ≤ 1000 by omega) (by decide)) (fun a ha => ?_) ?_
        · have ha : a < es.length := by
            rw [List.mem_range, List.length_map] at ha
            omega
          obtain ⟨x, hx⟩ : ∃ x, es[a]? = some x := ⟨es[a], List.getElem?_eq_getElem ha⟩
          refine st_ ?_
          try simp only [List.set_cons_zero, List.set_cons_succ, List.map_cons, List.map_nil, mdSl, putBack, wipeE, permL, List.filterMap_cons, List.filterMap_nil, List.getElem?_cons_zero, List.getElem?_cons_succ]
          rw [Int.zero_add]
          refine x_get rfl (atI_map hx) ?_
          refine st_ ?_
          refine O1.of x.ix0 ?_
          refine st_ ?_
          refine w_geq x.word_shaped (by decide +kernel) ?_
          rw [x.eq_bill]
          refine st_ ?_
          refine ⟨fun hb => ?_, fun hb => ?_⟩
          · have : ∃ d s, x = .bill d s := by
              cases x <;> first | exact ⟨_, _, rfl⟩ | cases hb
            obtain ⟨d', s', rfl⟩ := this
            refine st_ ?_
            refine x_get rfl (atI_map hx) ?_
            refine st_ ?_
            refine x_get rfl (atI_map he) ?_
            refine st_ ?_
            refine ⟨fun hd => ?_, fun hd => ?_⟩
            · have hd := of_decide_eq_false hd
              refine ⟨?_, rfl⟩
              show Option.map PyData.int (q a) = none
              simp only [q, hx, if_neg hd, Option.map_none]
            · have hd := of_decide_eq_true hd
              refine st_ ?_
              refine ⟨?_, rfl⟩
              show Option.map PyData.int (q a) = _
              simp only [q, hx, if_pos hd, Option.map_some]
          · refine ⟨fun _ => ⟨?_, rfl⟩, fun z => (nomatch z)⟩
            show Option.map PyData.int (q a) = none
            cases x <;> first | (simp only [q, hx, Option.map_none]; done) | cases hb
        rw [← List.map_filterMap]
        generalize hks : List.filterMap q (List.range ((es.map Ent.D).length : Int).toNat) = ks
        have hmem : ∀ k ∈ ks, ∃ (b : Nat) (d' s' : Int), k = (b : Int) ∧ es[b]? = some (.bill d' s') ∧ d' ≤ d := fun k hk => by
          rw [← hks, List.mem_filterMap] at hk
          obtain ⟨b, hb, hq⟩ := hk
          simp only [q] at hq
          split at hq
          · rename_i d' s' e1
            split at hq
            · cases hq
              exact ⟨b, d', s', rfl, e1, by assumption⟩
            · cases hq
          · cases hq
        have hkl : ks.length ≤ 1000 := by
          rw [← hks]
          refine Nat.le_trans (List.length_filterMap_le _ _) ?_
          rw [List.length_range, List.length_map]
          omega
        clear hks
        refine sti_ ?_
        refine w_gne (ints_shaped ks) (by decide +kernel) ?_
        refine st_ ?_
        refine ⟨fun hz => ?_, fun hz => ?_⟩
        · have hk1 : 1 ≤ ks.length := by
            cases ks with
            | nil => simp [PyData.eqv, PyData.eqvAll] at hz
            | cons k r => simp
          refine st_ ?_
          try simp only [List.set_cons_zero, List.set_cons_succ, List.map_cons, List.map_nil, mdSl, putBack, wipeE, permL, List.filterMap_cons, List.filterMap_nil, List.getElem?_cons_zero, List.getElem?_cons_succ]
          refine x_get rfl (atI_map he) ?_
          refine st_ ?_
          refine x_get rfl (atI_map he) ?_
          refine st_ ?_
          try simp only [List.set_cons_zero, List.set_cons_succ, List.map_cons, List.map_nil, mdSl, putBack, wipeE, permL, List.filterMap_cons, List.filterMap_nil, List.getElem?_cons_zero, List.getElem?_cons_succ]
          refine (s_pick (m := ((ks.map PyData.int).length : Int)) hJ5 (by omega) (by rw [List.length_map]; omega) (by rw [List.length_map]; omega)).mono ?_
          rintro _ _ ⟨r, js6, s6, rfl, rfl, hJ6, hr0, hr1⟩
          refine st_ ?_
          try simp only [List.set_cons_zero, List.set_cons_succ, List.map_cons, List.map_nil, mdSl, putBack, wipeE, permL, List.filterMap_cons, List.filterMap_nil, List.getElem?_cons_zero, List.getElem?_cons_succ]
          refine w_ixL hr0 hr1 fun k ek => ?_
          have hk := List.mem_of_getElem? ek
          rw [List.mem_map] at hk
          obtain ⟨k, hk, rfl⟩ := hk
          obtain ⟨b, d', s', rfl, hb, hd⟩ := hmem k hk
          refine st_ ?_
          try simp only [List.set_cons_zero, List.set_cons_succ, List.map_cons, List.map_nil, mdSl, putBack, wipeE, permL, List.filterMap_cons, List.filterMap_nil, List.getElem?_cons_zero, List.getElem?_cons_succ]
          refine x_put rfl (ixN_map (by omega)) ?_
          refine ⟨_, rfl, es.set t (.named d s b), js6, _, _, by (try simp only [List.set_cons_zero, List.set_cons_succ, List.map_cons, List.map_nil, mdSl, putBack, wipeE, permL, List.filterMap_cons, List.filterMap_nil, List.getElem?_cons_zero, List.getElem?_cons_succ]); rw [List.map_set]; rfl, by rw [List.length_set]; exact hes, fun x hx => ?_, hJ6.mono (by omega)⟩
          have hbt : t ≠ b := fun z => by
            subst z
            rw [he] at hb
            cases hb
          rcases List.mem_or_eq_of_mem_set hx with hx | rfl
          · exact (hok x hx).set he
          · exact ⟨hds, d', s', by rw [List.getElem?_set_ne hbt]; exact hb, hd⟩
        · refine st_ ?_
          exact ⟨_, rfl, es, js5, _, _, rfl, hes, hok, hJ5.mono (by omega)⟩
      · refine st_ ?_
        exact ⟨_, rfl, es, js5, _, _, rfl, hes, hok, hJ5.mono (by omega)⟩
    · refine st_ ?_
      refine ⟨fun z => (nomatch z), fun _ => ?_⟩
      refine st_ ?_
      exact ⟨_, rfl, es, js4, _, _, rfl, hes, hok, hJ4.mono (by omega)⟩
  · obtain ⟨es, js4, s3, s4, rfl, hes, hok, hJ4⟩ := hI
    refine st_ ?_
    exact ⟨es, js4, _, rfl, hes, hok, rfl, hJ4.mono (by simp only [List.length_range, List.length_map]; omega)⟩
end VL

namespace VL
open PySem PySem.Spec PyProof.Rows L2 G
theorem cut_map (ns : List Int) (lo hi : Option Int) : ∃ ms : List Int, cutD (ns.map .int) lo hi = ms.map .int ∧ ms.length ≤ ns.length ∧ (∀ m ∈ ms, m ∈ ns) := by
  unfold cutD
  generalize HT.sIx _ 0 lo = a
  generalize HT.sIx _ _ hi - a = b
  refine ⟨(ns.drop a).take b, by rw [← List.map_drop, ← List.map_take], by simp; omega, fun m hm => List.mem_of_mem_drop (List.mem_of_mem_take hm)⟩
theorem s_many {n : Nat} {js : List D} {upto : Int} (hj : JB n js) (hn : n ≤ 100000000) (h0 : 0 ≤ upto) (h1 : upto ≤ 1000) :
    O2 (C_many [.ow js, .va (.int upto)]) fun d en => ∃ (r : Int) (js' : List D) (s : En), d = .int r ∧ en = .ow js' :: s ∧ JB (n + 2) js' ∧ 0 ≤ r ∧ r ≤ upto := by
  refine w_fn 2 ?_
  try simp only [List.length_cons, List.length_nil, Nat.reduceAdd, Nat.reduceSub, List.replicate_succ, List.replicate_zero, List.cons_append, List.nil_append]
  unfold f__law_many
  refine st_ ?_
  refine (s_pick hj (by omega) (by decide) (by decide)).mono ?_
  rintro _ _ ⟨r, js1, s1, rfl, rfl, hJ1, hr0, hr1⟩
  refine st_ ?_
  try simp only [List.set_cons_zero, List.set_cons_succ, List.map_cons, List.map_nil, mdSl, putBack, wipeE, permL, List.filterMap_cons, List.filterMap_nil, List.getElem?_cons_zero, List.getElem?_cons_succ]
  refine ⟨fun _ => ?_, fun _ => ?_⟩
  · refine st_ ?_
    try simp only [List.set_cons_zero, List.set_cons_succ, List.map_cons, List.map_nil, mdSl, putBack, wipeE, permL, List.filterMap_cons, List.filterMap_nil, List.getElem?_cons_zero, List.getElem?_cons_succ]
    refine (s_pick hJ1 (by omega) (by omega) (by omega)).mono ?_
    rintro _ _ ⟨r, js2, s2, rfl, rfl, hJ2, hr0, hr1⟩
    exact ⟨r, js2, _, rfl, rfl, hJ2, hr0, by omega⟩
  · refine st_ ?_
    try simp only [List.set_cons_zero, List.set_cons_succ, List.map_cons, List.map_nil, mdSl, putBack, wipeE, permL, List.filterMap_cons, List.filterMap_nil, List.getElem?_cons_zero, List.getElem?_cons_succ]
    refine (s_pick hJ1 (by omega) (by decide) (by decide)).mono ?_
    rintro _ _ ⟨r, js2, s2, rfl, rfl, hJ2, hr0, hr1⟩
    refine st_ ?_
    try simp only [List.set_cons_zero, List.set_cons_succ, List.map_cons, List.map_nil, mdSl, putBack, wipeE, permL, List.filterMap_cons, List.filterMap_nil, List.getElem?_cons_zero, List.getElem?_cons_succ]
    refine w_ixL hr0 (by simpa using hr1) fun x ex => ?_
    have hx : ∃ y : Int, x = .int y ∧ 0 ≤ y := by
      have := List.mem_of_getElem? ex
      simp only [List.mem_cons, List.not_mem_nil, or_false] at this
      rcases this with rfl | rfl | rfl | rfl | rfl | rfl | rfl | rfl <;> exact ⟨_, rfl, by decide⟩
    obtain ⟨y, rfl, hy⟩ := hx
    refine st_ ?_
    refine ⟨_, js2, _, rfl, rfl, hJ2, ?_, ?_⟩ <;> (split <;> omega)
theorem s_drawn {n : Nat} {js : List D} {upto : Int} (hj : JB n js) (hn : n ≤ 10000000) (h0 : 0 ≤ upto) (h1 : upto ≤ 1000) :
    O2 (C_drawn [.ow js, .va (.int upto)]) fun d en => ∃ (es : List Ent) (js' : List D) (s : En), d = .tuple (es.map Ent.D) ∧ (es.length : Int) ≤ upto ∧ AccOk es ∧ en = .ow js' :: s ∧ JB (n + 5 + 7 * upto.toNat) js' := by
  refine w_fn 2 ?_
  try simp only [List.length_cons, List.length_nil, Nat.reduceAdd, Nat.reduceSub, List.replicate_succ, List.replicate_zero, List.cons_append, List.nil_append]
  unfold f__law_drawn
  refine st_ ?_
  refine (s_many hj (by omega) h0 h1).mono ?_
  rintro _ _ ⟨r, js1, s1, rfl, rfl, hJ1, hr0, hr1⟩
  refine st_ ?_
  try simp only [List.set_cons_zero, List.set_cons_succ, List.map_cons, List.map_nil, mdSl, putBack, wipeE, permL, List.filterMap_cons, List.filterMap_nil, List.getElem?_cons_zero, List.getElem?_cons_succ]
  refine (s_slips (ts := [1, 3, 12, 10 ^ 30 - 1]) hJ1 (by omega) hr0 (by omega) (by simp) (by decide) (by decide)).mono ?_
  rintro _ _ ⟨rows, js2, s2, rfl, hl, hrow, rfl, hJ2⟩
  refine st_ ?_
  try simp only [List.set_cons_zero, List.set_cons_succ, List.map_cons, List.map_nil, mdSl, putBack, wipeE, permL, List.filterMap_cons, List.filterMap_nil, List.getElem?_cons_zero, List.getElem?_cons_succ]
  refine (s_named hJ2 (by omega) (by omega) hrow).mono ?_
  rintro _ _ ⟨es, js3, s3, rfl, hes, hok, rfl, hJ3⟩
  exact ⟨es, js3, _, rfl, by omega, hok, rfl, hJ3.mono (by omega)⟩
theorem s_cellwise {ns : List Int} (hl : ns.length ≤ 1000) :
    O2 (C_cellwise [.va (.list (ns.map .int))]) fun ds en => ∃ (es : List Ent), ds = es.map Ent.D ∧ es.length ≤ ns.length ∧ AccOk es ∧ en = [.va (.list (ns.map .int))] ++ en.drop 1 := by
  obtain ⟨ms, hms, hml, _⟩ := cut_map ns none (some 40)
  refine w_fnL 9 ?_
  try simp only [List.length_cons, List.length_nil, Nat.reduceAdd, Nat.reduceSub, List.replicate_succ, List.replicate_zero, List.cons_append, List.nil_append]
  unfold f__law_cellwise
  refine st_ ?_
  refine O1.of (x := sliceD _ _ _) (by show some (PyData.list _) = _; rw [hms]) ?_
  refine st_ ?_
  refine O1.of (x := gSum _) (by show (match intsOf (ms.map PyData.int) with | some ns => some (PyData.int ns.sum) | none => none) = _; rw [intsOf_map]) ?_
  refine st_ ?_
  refine (s_filled _).mono ?_
  rintro _ _ ⟨rfl, hJ0⟩
  try simp only [List.set_cons_zero, List.set_cons_succ, List.map_cons, List.map_nil, mdSl, putBack, wipeE, permL, List.filterMap_cons, List.filterMap_nil, List.getElem?_cons_zero, List.getElem?_cons_succ]
  refine st_ ?_
  try simp only [List.set_cons_zero, List.set_cons_succ, List.map_cons, List.map_nil, mdSl, putBack, wipeE, permL, List.filterMap_cons, List.filterMap_nil, List.getElem?_cons_zero, List.getElem?_cons_succ]
  refine (s_frame hJ0 (by decide)).mono ?_
  rintro _ _ ⟨lo, sp, js1, s1, rfl, rfl, hJ1, hlo, hlo2, hsp, hsp2⟩
  refine st_ ?_
  try simp only [List.set_cons_zero, List.set_cons_succ, List.map_cons, List.map_nil, mdSl, putBack, wipeE, permL, List.filterMap_cons, List.filterMap_nil, List.getElem?_cons_zero, List.getElem?_cons_succ]
  refine st_ ?_
  refine (s_pick hJ1 (by omega) (by decide) (by decide)).mono ?_
  rintro _ _ ⟨r, js2, s2, rfl, rfl, hJ2, hr0, hr1⟩
  refine st_ ?_
  try simp only [List.set_cons_zero, List.set_cons_succ, List.map_cons, List.map_nil, mdSl, putBack, wipeE, permL, List.filterMap_cons, List.filterMap_nil, List.getElem?_cons_zero, List.getElem?_cons_succ]
  refine w_ixL hr0 (by simpa using hr1) fun x ex => ?_
  have hx : ∃ y : Int, x = .int y ∧ 1 ≤ y ∧ y < 10 ^ 30 := by
    have := List.mem_of_getElem? ex
    simp only [List.mem_cons, List.not_mem_nil, or_false] at this
    rcases this with rfl | rfl | rfl | rfl <;> exact ⟨_, rfl, by decide, by decide⟩
  obtain ⟨top, rfl, htp1, htp2⟩ := hx
  clear ex
  refine st_ ?_
  refine O1.of (x := sliceD _ _ _) (by show some (PyData.list _) = _; rw [hms]) ?_
  refine st_ ?_
  try simp only [List.set_cons_zero, List.set_cons_succ, List.map_cons, List.map_nil, mdSl, putBack, wipeE, permL, List.filterMap_cons, List.filterMap_nil, List.getElem?_cons_zero, List.getElem?_cons_succ]
  refine w_forD (fun i en => ∃ (es : List Ent) (s2 s6 s7 s8 : Sl), en = [.va (.list (ns.map .int)), .ow (es.map Ent.D), s2, .va (.int lo), .va (.int sp), .va (.int top), s6, s7, s8] ∧
    es.length = i ∧ AccOk es) _ 0 _ ⟨[], _, _, _, _, rfl, rfl, fun _ h => (nomatch h)⟩ (fun i t en et hI => ?_) fun en hI => ?_
  · obtain ⟨es, s2, s6, s7, s8, rfl, hes, hok⟩ := hI
    have hi : i < ms.length := (List.getElem?_eq_some_iff.mp et).1
    clear et
    refine w_turn ?_
    refine st_ ?_
    refine (s_filled _).mono ?_
    rintro _ _ ⟨rfl, hJ0⟩
    try simp only [List.set_cons_zero, List.set_cons_succ, List.map_cons, List.map_nil, mdSl, putBack, wipeE, permL, List.filterMap_cons, List.filterMap_nil, List.getElem?_cons_zero, List.getElem?_cons_succ]
    refine st_ ?_
    try simp only [List.set_cons_zero, List.set_cons_succ, List.map_cons, List.map_nil, mdSl, putBack, wipeE, permL, List.filterMap_cons, List.filterMap_nil, List.getElem?_cons_zero, List.getElem?_cons_succ]
    refine (s_pick hJ0 (by omega) (by decide) (by decide)).mono ?_
    rintro _ _ ⟨r, js5, s5, rfl, rfl, hJ5, hr0, hr1⟩
    refine st_ ?_
    try simp only [List.set_cons_zero, List.set_cons_succ, List.map_cons, List.map_nil, mdSl, putBack, wipeE, permL, List.filterMap_cons, List.filterMap_nil, List.getElem?_cons_zero, List.getElem?_cons_succ]
    refine w_ixL hr0 (by simpa using hr1) fun wd ew => ?_
    have hw : wd = .str (Str.ofString "bill") ∨ wd = .str (Str.ofString "pay") := by
      have := List.mem_of_getElem? ew
      simpa using this
    clear ew
    refine st_ ?_
    try simp only [List.set_cons_zero, List.set_cons_succ, List.map_cons, List.map_nil, mdSl, putBack, wipeE, permL, List.filterMap_cons, List.filterMap_nil, List.getElem?_cons_zero, List.getElem?_cons_succ]
    refine (s_pick hJ5 (by omega) hsp (by omega)).mono ?_
    rintro _ _ ⟨r7, js7, s7, rfl, rfl, hJ7, hr70, hr71⟩
    refine st_ ?_
    try simp only [List.set_cons_zero, List.set_cons_succ, List.map_cons, List.map_nil, mdSl, putBack, wipeE, permL, List.filterMap_cons, List.filterMap_nil, List.getElem?_cons_zero, List.getElem?_cons_succ]
    refine (s_pick hJ7 (by omega) htp1 (by omega)).mono ?_
    rintro _ _ ⟨r8, js8, s8', rfl, rfl, hJ8, hr80, hr81⟩
    refine st_ ?_
    try simp only [List.set_cons_zero, List.set_cons_succ, List.map_cons, List.map_nil, mdSl, putBack, wipeE, permL, List.filterMap_cons, List.filterMap_nil, List.getElem?_cons_zero, List.getElem?_cons_succ]
    have row : ∃ e : Ent, .tuple [wd, .int (lo + r7), .int (1 + r8)] = e.D ∧ RowOk e := by
      have hn : NumOk (lo + r7) (1 + r8) := ⟨by omega, by omega, by omega, by omega⟩
      rcases hw with rfl | rfl
      · exact ⟨.bill _ _, rfl, hn⟩
      · exact ⟨.pay _ _, rfl, hn⟩
    obtain ⟨e, he, hrow⟩ := row
    rw [he]
    refine ⟨by rw [List.length_map]; exact Nat.lt_of_lt_of_le (show es.length < 1001 by omega) (by decide), ?_⟩
    refine ⟨_, rfl, es ++ [e], _, _, _, _, by (try simp only [List.set_cons_zero, List.set_cons_succ, List.map_cons, List.map_nil, mdSl, putBack, wipeE, permL, List.filterMap_cons, List.filterMap_nil, List.getElem?_cons_zero, List.getElem?_cons_succ]); rw [List.map_append]; rfl, by rw [List.length_append]; simp only [List.length_cons, List.length_nil]; omega, fun x hx => ?_⟩
    rw [List.mem_append, List.mem_singleton] at hx
    rcases hx with hx | rfl
    · have := hok x hx
      cases x with
      | named d s b =>
        obtain ⟨h1, d', s', h2, h3⟩ := this
        refine ⟨h1, d', s', ?_, h3⟩
        rw [List.getElem?_append_left (List.getElem?_eq_some_iff.mp h2).1]
        exact h2
      | _ => exact this
    · cases x <;> first | exact hrow | exact hrow.elim
  · obtain ⟨es, s2, s6, s7, s8, rfl, hes, hok⟩ := hI
    refine st_ ?_
    exact ⟨es, rfl, by omega, hok, rfl⟩
end VL

namespace VL
open PySem PySem.Spec PyProof.Rows L2 G
def accD (es : List Ent) : D := .tuple (es.map Ent.D)
theorem s_is_integer (d : D) : O2 (C_is_integer [.va d]) fun r en => r = .bool (isiD d "int" && !isiD d "bool") := by
  refine w_fn 1 ?_
  try simp only [List.length_cons, List.length_nil, Nat.reduceAdd, Nat.reduceSub, List.replicate_succ, List.replicate_zero, List.cons_append, List.nil_append]
  unfold f_is_integer
  refine st_ ?_
  refine ⟨fun h => ?_, fun h => ?_⟩
  · refine st_ ?_
    show _ = _
    rw [h]
    rfl
  · show _ = _
    rw [h]
    rfl
theorem s_is_integer_int (i : Int) : O2 (C_is_integer [.va (.int i)]) fun r en => r = .bool true := (s_is_integer _).mono fun _ _ h => h
theorem s_is_sum {i : Int} (h : 1 ≤ i) : O2 (C_is_sum [.va (.int i)]) fun r en => r = .bool true := by
  refine w_fn 1 ?_
  try simp only [List.length_cons, List.length_nil, Nat.reduceAdd, Nat.reduceSub, List.replicate_succ, List.replicate_zero, List.cons_append, List.nil_append]
  unfold f_is_sum
  refine st_ ?_
  refine x_t (by simp [PyData.eqv, typD, isiD, isNone]; done) ?_
  refine st_ ?_
  refine x_t (by simp [PyData.eqv, typD, isiD, isNone]; done) ?_
  refine st_ ?_
  show _ = _
  rw [decide_eq_true h]
theorem s_has_entry_form {es : List Ent} {e : Ent} (h : EntOk es e) : O2 (C_has_entry_form [.va e.D]) fun r en => r = .bool true := by
  refine w_fn 5 ?_
  try simp only [List.length_cons, List.length_nil, Nat.reduceAdd, Nat.reduceSub, List.replicate_succ, List.replicate_zero, List.cons_append, List.nil_append]
  unfold f_has_entry_form
  cases e with
  | bill d s =>
    simp only [Ent.D]
    refine st_ ?_
    refine x_f (by simp [PyData.eqv, typD, isiD, isNone]; done) ?_
    refine st_ ?_
    refine x_t (by simp [PyData.eqv, typD, isiD, isNone]; done) ?_
    refine st_ ?_
    try simp only [List.set_cons_zero, List.set_cons_succ, List.map_cons, List.map_nil, mdSl, putBack, wipeE, permL, List.filterMap_cons, List.filterMap_nil, List.getElem?_cons_zero, List.getElem?_cons_succ]
    refine st_ ?_
    try simp only [List.set_cons_zero, List.set_cons_succ, List.map_cons, List.map_nil, mdSl, putBack, wipeE, permL, List.filterMap_cons, List.filterMap_nil, List.getElem?_cons_zero, List.getElem?_cons_succ]
    refine (s_is_integer_int _).mono ?_
    rintro _ _ rfl
    refine st_ ?_
    try simp only [List.set_cons_zero, List.set_cons_succ, List.map_cons, List.map_nil, mdSl, putBack, wipeE, permL, List.filterMap_cons, List.filterMap_nil, List.getElem?_cons_zero, List.getElem?_cons_succ]
    refine st_ ?_
    try simp only [List.set_cons_zero, List.set_cons_succ, List.map_cons, List.map_nil, mdSl, putBack, wipeE, permL, List.filterMap_cons, List.filterMap_nil, List.getElem?_cons_zero, List.getElem?_cons_succ]
    refine (s_is_sum h.2.2.1).mono ?_
    rintro _ _ rfl
    rfl
  | pay d s =>
    simp only [Ent.D]
    refine st_ ?_
    refine x_f (by simp [PyData.eqv, typD, isiD, isNone]; done) ?_
    refine st_ ?_
    refine x_t (by simp [PyData.eqv, typD, isiD, isNone]; done) ?_
    refine st_ ?_
    try simp only [List.set_cons_zero, List.set_cons_succ, List.map_cons, List.map_nil, mdSl, putBack, wipeE, permL, List.filterMap_cons, List.filterMap_nil, List.getElem?_cons_zero, List.getElem?_cons_succ]
    refine st_ ?_
    try simp only [List.set_cons_zero, List.set_cons_succ, List.map_cons, List.map_nil, mdSl, putBack, wipeE, permL, List.filterMap_cons, List.filterMap_nil, List.getElem?_cons_zero, List.getElem?_cons_succ]
    refine (s_is_integer_int _).mono ?_
    rintro _ _ rfl
    refine st_ ?_
    try simp only [List.set_cons_zero, List.set_cons_succ, List.map_cons, List.map_nil, mdSl, putBack, wipeE, permL, List.filterMap_cons, List.filterMap_nil, List.getElem?_cons_zero, List.getElem?_cons_succ]
    refine st_ ?_
    try simp only [List.set_cons_zero, List.set_cons_succ, List.map_cons, List.map_nil, mdSl, putBack, wipeE, permL, List.filterMap_cons, List.filterMap_nil, List.getElem?_cons_zero, List.getElem?_cons_succ]
    refine (s_is_sum h.2.2.1).mono ?_
    rintro _ _ rfl
    rfl
  | named d s b =>
    simp only [Ent.D]
    refine st_ ?_
    refine x_f (by simp [PyData.eqv, typD, isiD, isNone]; done) ?_
    refine st_ ?_
    refine x_f (by simp [PyData.eqv, typD, isiD, isNone]; done) ?_
    refine st_ ?_
    refine x_t (by simp [PyData.eqv, typD, isiD, isNone]; done) ?_
    refine st_ ?_
    try simp only [List.set_cons_zero, List.set_cons_succ, List.map_cons, List.map_nil, mdSl, putBack, wipeE, permL, List.filterMap_cons, List.filterMap_nil, List.getElem?_cons_zero, List.getElem?_cons_succ]
    refine st_ ?_
    try simp only [List.set_cons_zero, List.set_cons_succ, List.map_cons, List.map_nil, mdSl, putBack, wipeE, permL, List.filterMap_cons, List.filterMap_nil, List.getElem?_cons_zero, List.getElem?_cons_succ]
    refine (s_is_integer_int _).mono ?_
    rintro _ _ rfl
    refine st_ ?_
    try simp only [List.set_cons_zero, List.set_cons_succ, List.map_cons, List.map_nil, mdSl, putBack, wipeE, permL, List.filterMap_cons, List.filterMap_nil, List.getElem?_cons_zero, List.getElem?_cons_succ]
    refine st_ ?_
    try simp only [List.set_cons_zero, List.set_cons_succ, List.map_cons, List.map_nil, mdSl, putBack, wipeE, permL, List.filterMap_cons, List.filterMap_nil, List.getElem?_cons_zero, List.getElem?_cons_succ]
    refine (s_is_sum h.1.2.2.1).mono ?_
    rintro _ _ rfl
    refine st_ ?_
    try simp only [List.set_cons_zero, List.set_cons_succ, List.map_cons, List.map_nil, mdSl, putBack, wipeE, permL, List.filterMap_cons, List.filterMap_nil, List.getElem?_cons_zero, List.getElem?_cons_succ]
    refine st_ ?_
    try simp only [List.set_cons_zero, List.set_cons_succ, List.map_cons, List.map_nil, mdSl, putBack, wipeE, permL, List.filterMap_cons, List.filterMap_nil, List.getElem?_cons_zero, List.getElem?_cons_succ]
    refine (s_is_integer_int _).mono ?_
    rintro _ _ rfl
    rfl
  | struck =>
    simp only [Ent.D]
    refine st_ ?_
    rfl
theorem s_is_index {es : List Ent} {b : Nat} {e : Ent} (h : es[b]? = some e) (hs : e.isStruck = false) : O2 (C_is_index [.va (accD es), .va (.int b)]) fun r en => r = .bool true := by
  have hl := (List.getElem?_eq_some_iff.mp h).1
  refine w_fn 2 ?_
  try simp only [List.length_cons, List.length_nil, Nat.reduceAdd, Nat.reduceSub, List.replicate_succ, List.replicate_zero, List.cons_append, List.nil_append]
  unfold f_is_index
  refine st_ ?_
  refine (s_is_integer_int _).mono ?_
  rintro _ _ rfl
  refine st_ ?_
  try simp only [List.set_cons_zero, List.set_cons_succ, List.map_cons, List.map_nil, mdSl, putBack, wipeE, permL, List.filterMap_cons, List.filterMap_nil, List.getElem?_cons_zero, List.getElem?_cons_succ]
  refine st_ ?_
  refine x_t (decide_eq_true (by omega)) ?_
  unfold accD
  refine st_ ?_
  refine x_t (decide_eq_true (by rw [List.length_map]; omega)) ?_
  refine st_ ?_
  refine O1.of (atI_map h) ?_
  refine st_ ?_
  refine O1.of e.ix0 ?_
  refine st_ ?_
  refine w_gne e.word_shaped (by decide +kernel) ?_
  rw [e.eq_struck, hs]
  rfl
theorem s_is_bill_index {es : List Ent} {b : Nat} {e : Ent} (h : es[b]? = some e) (hs : e.isBill = true) : O2 (C_is_bill_index [.va (accD es), .va (.int b)]) fun r en => r = .bool true := by
  have hz : e.isStruck = false := by cases e <;> first | rfl | cases hs
  refine w_fn 2 ?_
  try simp only [List.length_cons, List.length_nil, Nat.reduceAdd, Nat.reduceSub, List.replicate_succ, List.replicate_zero, List.cons_append, List.nil_append]
  unfold f_is_bill_index
  refine st_ ?_
  refine (s_is_index h hz).mono ?_
  rintro _ _ rfl
  refine st_ ?_
  try simp only [List.set_cons_zero, List.set_cons_succ, List.map_cons, List.map_nil, mdSl, putBack, wipeE, permL, List.filterMap_cons, List.filterMap_nil, List.getElem?_cons_zero, List.getElem?_cons_succ]
  unfold accD
  refine st_ ?_
  refine O1.of (atI_map h) ?_
  refine st_ ?_
  refine O1.of e.ix0 ?_
  refine st_ ?_
  refine w_geq e.word_shaped (by decide +kernel) ?_
  rw [e.eq_bill, hs]
  rfl
theorem s_names_its_bill {es : List Ent} {d s : Int} {b : Nat} (h : EntOk es (.named d s b)) : O2 (C_names_its_bill [.va (accD es), .va (Ent.named d s b).D]) fun r en => r = .bool true := by
  refine w_fn 2 ?_
  try simp only [List.length_cons, List.length_nil, Nat.reduceAdd, Nat.reduceSub, List.replicate_succ, List.replicate_zero, List.cons_append, List.nil_append]
  unfold f_names_its_bill
  obtain ⟨h1, d', s', h2, h3⟩ := h
  simp only [Ent.D]
  refine st_ ?_
  refine (s_is_bill_index h2 rfl).mono ?_
  rintro _ _ rfl
  refine st_ ?_
  try simp only [List.set_cons_zero, List.set_cons_succ, List.map_cons, List.map_nil, mdSl, putBack, wipeE, permL, List.filterMap_cons, List.filterMap_nil, List.getElem?_cons_zero, List.getElem?_cons_succ]
  unfold accD
  refine st_ ?_
  refine O1.of (atI_map h2) ?_
  simp only [Ent.D]
  refine st_ ?_
  show _ = _
  rw [decide_eq_true h3]
def isNamed : Ent → Bool
  | .named _ _ _ => true
  | _ => false
theorem s_fits_account {es : List Ent} (h : AccOk es) (hl : es.length ≤ 1000) : O2 (C_fits_account [.va (accD es)]) fun r en => r = .bool true := by
  have hz : es.length ≤ sizeLine := Nat.le_trans hl (by decide)
  have hall : ∀ (xs : List Ent) (f : Ent → Option Bool), (∀ x b, f x = some b → b = true) → gAll [.list ((xs.filterMap f).map .bool)] = some (.bool true) := fun xs f hf => by
    unfold gAll
    simp only [boolsOf_map]
    have : (xs.filterMap f).all id = true := by
      rw [List.all_eq_true]
      intro b hb
      rw [List.mem_filterMap] at hb
      obtain ⟨x, _, e⟩ := hb
      exact hf x b e
    rw [this]
  refine w_fn 2 ?_
  try simp only [List.length_cons, List.length_nil, Nat.reduceAdd, Nat.reduceSub, List.replicate_succ, List.replicate_zero, List.cons_append, List.nil_append]
  unfold f_fits_account accD
  refine st_ ?_
  refine x_f (by simp [PyData.eqv, typD, isiD, isNone]; done) ?_
  refine st_ ?_
  try simp only [List.set_cons_zero, List.set_cons_succ, List.map_cons, List.map_nil, mdSl, putBack, wipeE, permL, List.filterMap_cons, List.filterMap_nil, List.getElem?_cons_zero, List.getElem?_cons_succ]
  refine w_compD (fun e => (some true).map PyData.bool) hz (fun e he => ?_) ?_
  · refine st_ ?_
    refine (s_has_entry_form (h e he)).mono ?_
    rintro _ _ rfl
    exact ⟨rfl, rfl⟩
  rw [← List.map_filterMap]
  refine st_ ?_
  refine O1.of (hall es (fun _ => some true) fun _ _ e => by cases e; rfl) ?_
  refine st_ ?_
  try simp only [List.set_cons_zero, List.set_cons_succ, List.map_cons, List.map_nil, mdSl, putBack, wipeE, permL, List.filterMap_cons, List.filterMap_nil, List.getElem?_cons_zero, List.getElem?_cons_succ]
  refine w_compD (fun e => (if isNamed e then some true else none).map PyData.bool) hz (fun e he => ?_) ?_
  · refine st_ ?_
    try simp only [List.set_cons_zero, List.set_cons_succ, List.map_cons, List.map_nil, mdSl, putBack, wipeE, permL, List.filterMap_cons, List.filterMap_nil, List.getElem?_cons_zero, List.getElem?_cons_succ]
    refine O1.of e.ix0 ?_
    refine st_ ?_
    refine w_geq e.word_shaped (by decide +kernel) ?_
    refine st_ ?_
    rw [e.eq_named]
    refine ⟨fun hs => ?_, fun hs => ?_⟩
    · cases e with
      | named d s b => cases hs
      | _ => exact ⟨rfl, by first | rfl | trivial⟩
    · cases e with
      | named d s b =>
        refine st_ ?_
        try simp only [List.set_cons_zero, List.set_cons_succ, List.map_cons, List.map_nil, mdSl, putBack, wipeE, permL, List.filterMap_cons, List.filterMap_nil, List.getElem?_cons_zero, List.getElem?_cons_succ]
        refine (s_names_its_bill (h _ he)).mono ?_
        rintro _ _ rfl
        exact ⟨rfl, by first | rfl | trivial⟩
      | _ => cases hs
  rw [← List.map_filterMap]
  refine st_ ?_
  refine O1.of (hall es _ fun x b e => by
    split at e
    · cases e
      rfl
    · cases e) ?_
  rfl
theorem s_check_account {es : List Ent} (h : AccOk es) (hl : es.length ≤ 1000) : O2 (C_check_account [.va (accD es)]) fun r en => True := by
  refine w_fn 1 ?_
  try simp only [List.length_cons, List.length_nil, Nat.reduceAdd, Nat.reduceSub, List.replicate_succ, List.replicate_zero, List.cons_append, List.nil_append]
  unfold f_check_account
  refine st_ ?_
  refine (s_fits_account h hl).mono ?_
  rintro _ _ rfl
  refine st_ ?_
  trivial
end VL

namespace VL
open PySem PySem.Spec PyProof.Rows L2 G
/-- the days and indexes of the entries that are not struck -/
def dayIx (es : List Ent) (k : Nat) : Option (Int × Int) := match es[k]? with
  | some e => if e.isStruck then none else some (e.day, (k : Int))
  | none => none
def pairs (es : List Ent) : List (Int × Int) := (List.range es.length).filterMap (dayIx es)
def lineL (es : List Ent) : List Int := (sortP (pairs es)).map (·.2)
theorem pairs_len (es : List Ent) : (pairs es).length ≤ es.length := by
  refine Nat.le_trans (List.length_filterMap_le _ _) ?_
  rw [List.length_range]
  exact Nat.le_refl _
theorem line_len (es : List Ent) : (lineL es).length ≤ es.length := by
  unfold lineL
  rw [List.length_map, (sortP_perm _).length_eq]
  exact pairs_len es
theorem pairs_mem {es : List Ent} {p : Int × Int} (h : p ∈ pairs es) : ∃ (k : Nat) (e : Ent), es[k]? = some e ∧ e.isStruck = false ∧ p = (e.day, (k : Int)) := by
  unfold pairs at h
  rw [List.mem_filterMap] at h
  obtain ⟨k, _, h⟩ := h
  unfold dayIx at h
  split at h
  · rename_i e he
    split at h
    · cases h
    · rename_i hs
      cases h
      exact ⟨k, e, he, by simpa using hs, rfl⟩
  · cases h
theorem line_mem {es : List Ent} {i : Int} (h : i ∈ lineL es) : ∃ (k : Nat) (e : Ent), es[k]? = some e ∧ e.isStruck = false ∧ i = (k : Int) := by
  unfold lineL at h
  rw [List.mem_map] at h
  obtain ⟨p, hp, rfl⟩ := h
  obtain ⟨k, e, h1, h2, rfl⟩ := pairs_mem ((sortP_perm _).subset hp)
  exact ⟨k, e, h1, h2, rfl⟩
theorem pairs_not_ints : ∀ (ps : List (Int × Int)), ps ≠ [] → intsOf (ps.map pairD) = none
  | [], h => absurd rfl h
  | p :: ps, _ => rfl
theorem gSorted_pairs (ps : List (Int × Int)) : gSorted [.list (ps.map pairD)] = some ((sortP ps).map pairD) := by
  unfold gSorted
  cases ps with
  | nil => simp [intsOf, sortI, sortP]
  | cons p r => simp only [pairs_not_ints (p :: r) (by simp), pairsOf_map]
theorem gSorted_ints (ns : List Int) : gSorted [.list (ns.map .int)] = some ((sortI ns).map .int) := by
  unfold gSorted
  simp only [intsOf_map]
theorem gSortA_pairs (ps : List (Int × Int)) : gSortA [.list (ps.map pairD)] = some ((sortP ps).map pairD) := by
  unfold gSortA
  simp only [gSorted_pairs]
theorem gSortA_ints (ns : List Int) : gSortA [.list (ns.map .int)] = some ((sortI ns).map .int) := by
  unfold gSortA
  simp only [gSorted_ints]
theorem s_along {es : List Ent} (hl : es.length ≤ 1000) : O2 (C_along [.va (accD es)]) fun ds en => ds = (lineL es).map .int := by
  have hz : ∀ n, n ≤ 1000 → n ≤ sizeLine := fun n h => Nat.le_trans h (by decide)
  refine w_fnL 5 ?_
  try simp only [List.length_cons, List.length_nil, Nat.reduceAdd, Nat.reduceSub, List.replicate_succ, List.replicate_zero, List.cons_append, List.nil_append]
  unfold f_along
  refine st_ ?_
  unfold accD
  refine st_ ?_
  refine ⟨by rw [List.length_map]; exact ⟨by omega, by omega⟩, ?_⟩
  try simp only [List.set_cons_zero, List.set_cons_succ, List.map_cons, List.map_nil, mdSl, putBack, wipeE, permL, List.filterMap_cons, List.filterMap_nil, List.getElem?_cons_zero, List.getElem?_cons_succ]
  refine w_compD (fun k => (dayIx es k).map pairD) (by rw [List.length_range, List.length_map]; exact hz _ (by omega)) (fun k hk => ?_) ?_
  · have hk : k < es.length := by
      rw [List.mem_range, List.length_map] at hk
      omega
    have he : es[k]? = some es[k] := List.getElem?_eq_getElem hk
    generalize es[k] = e at he
    refine st_ ?_
    rw [Int.zero_add]
    refine O1.of (atI_map he) ?_
    refine st_ ?_
    refine O1.of e.ix0 ?_
    refine st_ ?_
    refine w_gne e.word_shaped (by decide +kernel) ?_
    rw [e.eq_struck]
    refine st_ ?_
    refine ⟨fun hs => ⟨?_, rfl⟩, fun hs => ?_⟩
    · have : e.isStruck = true := by simpa using hs
      show Option.map pairD (dayIx es k) = none
      simp only [dayIx, he, this, if_true, Option.map_none]
    · have hs : e.isStruck = false := by simpa using hs
      refine st_ ?_
      refine O1.of (atI_map he) ?_
      refine st_ ?_
      refine O1.of (e.ix1 hs) ?_
      refine st_ ?_
      refine ⟨?_, rfl⟩
      show Option.map pairD (dayIx es k) = _
      simp only [dayIx, he, hs, Bool.false_eq_true, if_false, Option.map_some]
      rfl
  have hp : List.filterMap (fun k => (dayIx es k).map pairD) (List.range ((es.map Ent.D).length : Int).toNat) = (pairs es).map pairD := by
    rw [← List.map_filterMap]
    unfold pairs
    rw [List.length_map, Int.toNat_natCast]
  rw [hp]
  refine st_ ?_
  refine O1.of (gSortA_pairs _) ?_
  refine st_ ?_
  refine w_compD (fun p => (some p.2).map PyData.int) (by rw [(sortP_perm _).length_eq]; exact hz _ (Nat.le_trans (pairs_len es) hl)) (fun p hp => ?_) ?_
  · unfold pairD
    refine st_ ?_
    exact ⟨rfl, rfl⟩
  rw [← List.map_filterMap]
  show _ = _
  unfold lineL
  rw [show (fun p : Int × Int => some p.2) = some ∘ (·.2) from rfl, List.filterMap_eq_map]
theorem s_line {es : List Ent} (h : AccOk es) (hl : es.length ≤ 1000) : O2 (C_line [.va (accD es)]) fun ds en => ds = (lineL es).map .int := by
  refine w_fnL 1 ?_
  try simp only [List.length_cons, List.length_nil, Nat.reduceAdd, Nat.reduceSub, List.replicate_succ, List.replicate_zero, List.cons_append, List.nil_append]
  unfold f_line
  refine st_ ?_
  try simp only [List.set_cons_zero, List.set_cons_succ, List.map_cons, List.map_nil, mdSl, putBack, wipeE, permL, List.filterMap_cons, List.filterMap_nil, List.getElem?_cons_zero, List.getElem?_cons_succ]
  refine (s_check_account h hl).mono ?_
  rintro r _ -
  refine st_ ?_
  try simp only [List.set_cons_zero, List.set_cons_succ, List.map_cons, List.map_nil, mdSl, putBack, wipeE, permL, List.filterMap_cons, List.filterMap_nil, List.getElem?_cons_zero, List.getElem?_cons_succ]
  exact s_along hl
def isBillAt (es : List Ent) (i : Int) : Bool := match es[i.toNat]? with
  | some e => e.isBill
  | none => false
theorem s_bills_along {es : List Ent} (hl : es.length ≤ 1000) : O2 (C_bills_along [.va (accD es)]) fun ds en => ds = ((lineL es).filter (isBillAt es)).map .int := by
  have hz : ∀ n, n ≤ 1000 → n ≤ sizeLine := fun n h => Nat.le_trans h (by decide)
  refine w_fnL 2 ?_
  try simp only [List.length_cons, List.length_nil, Nat.reduceAdd, Nat.reduceSub, List.replicate_succ, List.replicate_zero, List.cons_append, List.nil_append]
  unfold f_bills_along
  refine st_ ?_
  try simp only [List.set_cons_zero, List.set_cons_succ, List.map_cons, List.map_nil, mdSl, putBack, wipeE, permL, List.filterMap_cons, List.filterMap_nil, List.getElem?_cons_zero, List.getElem?_cons_succ]
  refine (s_along hl).mono ?_
  rintro _ _ rfl
  refine st_ ?_
  try simp only [List.set_cons_zero, List.set_cons_succ, List.map_cons, List.map_nil, mdSl, putBack, wipeE, permL, List.filterMap_cons, List.filterMap_nil, List.getElem?_cons_zero, List.getElem?_cons_succ]
  refine w_compD (fun i => (if isBillAt es i then some i else none).map PyData.int) (hz _ (Nat.le_trans (line_len es) hl)) (fun i hi => ?_) ?_
  · obtain ⟨k, e, he, hs, rfl⟩ := line_mem hi
    have hb : isBillAt es (k : Int) = e.isBill := by
      unfold isBillAt
      rw [Int.toNat_natCast, he]
    refine st_ ?_
    unfold accD
    refine st_ ?_
    refine O1.of (atI_map he) ?_
    refine st_ ?_
    refine O1.of e.ix0 ?_
    refine st_ ?_
    refine w_geq e.word_shaped (by decide +kernel) ?_
    rw [e.eq_bill]
    refine st_ ?_
    rw [hb]
    refine ⟨fun hs => ⟨?_, rfl⟩, fun hs => ?_⟩
    · rw [hs]
      rfl
    · refine st_ ?_
      rw [hs]
      exact ⟨rfl, rfl⟩
  rw [← List.map_filterMap]
  show _ = _
  rw [← List.filterMap_eq_filter]
  rfl
theorem s_payments_along {es : List Ent} (hl : es.length ≤ 1000) : O2 (C_payments_along [.va (accD es)]) fun ds en => ds = ((lineL es).filter fun i => !isBillAt es i).map .int := by
  have hz : ∀ n, n ≤ 1000 → n ≤ sizeLine := fun n h => Nat.le_trans h (by decide)
  refine w_fnL 2 ?_
  try simp only [List.length_cons, List.length_nil, Nat.reduceAdd, Nat.reduceSub, List.replicate_succ, List.replicate_zero, List.cons_append, List.nil_append]
  unfold f_payments_along
  refine st_ ?_
  try simp only [List.set_cons_zero, List.set_cons_succ, List.map_cons, List.map_nil, mdSl, putBack, wipeE, permL, List.filterMap_cons, List.filterMap_nil, List.getElem?_cons_zero, List.getElem?_cons_succ]
  refine (s_along hl).mono ?_
  rintro _ _ rfl
  refine st_ ?_
  try simp only [List.set_cons_zero, List.set_cons_succ, List.map_cons, List.map_nil, mdSl, putBack, wipeE, permL, List.filterMap_cons, List.filterMap_nil, List.getElem?_cons_zero, List.getElem?_cons_succ]
  refine w_compD (fun i => (if !isBillAt es i then some i else none).map PyData.int) (hz _ (Nat.le_trans (line_len es) hl)) (fun i hi => ?_) ?_
  · obtain ⟨k, e, he, hs, rfl⟩ := line_mem hi
    have hb : isBillAt es (k : Int) = e.isBill := by
      unfold isBillAt
      rw [Int.toNat_natCast, he]
    refine st_ ?_
    unfold accD
    refine st_ ?_
    refine O1.of (atI_map he) ?_
    refine st_ ?_
    refine O1.of e.ix0 ?_
    refine st_ ?_
    refine w_gne e.word_shaped (by decide +kernel) ?_
    rw [e.eq_bill]
    refine st_ ?_
    rw [hb]
    refine ⟨fun hs => ⟨?_, rfl⟩, fun hs => ?_⟩
    · rw [hs]
      rfl
    · refine st_ ?_
      rw [hs]
      exact ⟨rfl, rfl⟩
  rw [← List.map_filterMap]
  show _ = _
  rw [← List.filterMap_eq_filter]
  rfl
theorem s_bills_of {es : List Ent} (h : AccOk es) (hl : es.length ≤ 1000) : O2 (C_bills_of [.va (accD es)]) fun ds en => ds = ((lineL es).filter (isBillAt es)).map .int := by
  refine w_fnL 1 ?_
  try simp only [List.length_cons, List.length_nil, Nat.reduceAdd, Nat.reduceSub, List.replicate_succ, List.replicate_zero, List.cons_append, List.nil_append]
  unfold f_bills_of
  refine st_ ?_
  try simp only [List.set_cons_zero, List.set_cons_succ, List.map_cons, List.map_nil, mdSl, putBack, wipeE, permL, List.filterMap_cons, List.filterMap_nil, List.getElem?_cons_zero, List.getElem?_cons_succ]
  refine (s_check_account h hl).mono ?_
  rintro r _ -
  refine st_ ?_
  try simp only [List.set_cons_zero, List.set_cons_succ, List.map_cons, List.map_nil, mdSl, putBack, wipeE, permL, List.filterMap_cons, List.filterMap_nil, List.getElem?_cons_zero, List.getElem?_cons_succ]
  exact s_bills_along hl
theorem s_payments_of {es : List Ent} (h : AccOk es) (hl : es.length ≤ 1000) : O2 (C_payments_of [.va (accD es)]) fun ds en => ds = ((lineL es).filter fun i => !isBillAt es i).map .int := by
  refine w_fnL 1 ?_
  try simp only [List.length_cons, List.length_nil, Nat.reduceAdd, Nat.reduceSub, List.replicate_succ, List.replicate_zero, List.cons_append, List.nil_append]
  unfold f_payments_of
  refine st_ ?_
  try simp only [List.set_cons_zero, List.set_cons_succ, List.map_cons, List.map_nil, mdSl, putBack, wipeE, permL, List.filterMap_cons, List.filterMap_nil, List.getElem?_cons_zero, List.getElem?_cons_succ]
  refine (s_check_account h hl).mono ?_
  rintro r _ -
  refine st_ ?_
  try simp only [List.set_cons_zero, List.set_cons_succ, List.map_cons, List.map_nil, mdSl, putBack, wipeE, permL, List.filterMap_cons, List.filterMap_nil, List.getElem?_cons_zero, List.getElem?_cons_succ]
  exact s_payments_along hl
theorem s_is_int (d : D) : O2 (C_is_int [.va d]) fun r en => r = .bool (isiD d "int" && !isiD d "bool") := by
  refine w_fn 1 ?_
  try simp only [List.length_cons, List.length_nil, Nat.reduceAdd, Nat.reduceSub, List.replicate_succ, List.replicate_zero, List.cons_append, List.nil_append]
  unfold f__law_is_int
  refine st_ ?_
  refine ⟨fun h => ?_, fun h => ?_⟩
  · refine st_ ?_
    show _ = _
    rw [h]
    rfl
  · show _ = _
    rw [h]
    rfl
/-! ### what is like -/
theorem s_like_int (n : Nat) (i : Int) : O2 (C_like (n + 1) [.va (.int i), .va (.int i)]) fun r en => r = .bool true := by
  refine w_fn 4 ?_
  try simp only [List.length_cons, List.length_nil, Nat.reduceAdd, Nat.reduceSub, List.replicate_succ, List.replicate_zero, List.cons_append, List.nil_append]
  unfold f__law_like
  refine st_ ?_
  refine x_f (by simp [PyData.eqv, typD, isiD, isNone]; done) ?_
  refine st_ ?_
  refine x_f (by simp [PyData.eqv, typD, isiD, isNone]; done) ?_
  refine st_ ?_
  refine x_f (by simp [PyData.eqv, typD, isiD, isNone]; done) ?_
  refine st_ ?_
  refine x_t (by simp [PyData.eqv, typD, isiD, isNone]; done) ?_
  refine st_ ?_
  refine (s_is_int _).mono ?_
  rintro _ _ rfl
  refine st_ ?_
  try simp only [List.set_cons_zero, List.set_cons_succ, List.map_cons, List.map_nil, mdSl, putBack, wipeE, permL, List.filterMap_cons, List.filterMap_nil, List.getElem?_cons_zero, List.getElem?_cons_succ]
  refine x_t (by simp [PyData.eqv, typD, isiD, isNone]; done) ?_
  refine st_ ?_
  show _ = _
  simp [PyData.eqv]
theorem zipD_self : ∀ ds : List D, zipD ds ds = ds.map fun d => .tuple [d, d]
  | [] => rfl
  | d :: r => by
    unfold zipD
    rw [zipD_self r]
    rfl
theorem all_some (xs : List D) : gAll [.list ((xs.filterMap fun _ => some true).map .bool)] = some (.bool true) := by
  unfold gAll
  simp only [boolsOf_map]
  have : (xs.filterMap fun _ => some true).all id = true := by
    rw [List.all_eq_true]
    intro b hb
    rw [List.mem_filterMap] at hb
    obtain ⟨_, _, e⟩ := hb
    cases e
    rfl
  rw [this]
theorem s_like_list (n : Nat) (ds : List D) (hl : ds.length ≤ 10000) (h : ∀ d ∈ ds, O2 (C_like n [.va d, .va d]) fun r en => r = .bool true) : O2 (C_like (n + 1) [.va (.list ds), .va (.list ds)]) fun r en => r = .bool true := by
  refine w_fn 4 ?_
  try simp only [List.length_cons, List.length_nil, Nat.reduceAdd, Nat.reduceSub, List.replicate_succ, List.replicate_zero, List.cons_append, List.nil_append]
  unfold f__law_like
  refine st_ ?_
  refine x_t (by simp [PyData.eqv, typD, isiD, isNone]; done) ?_
  refine st_ ?_
  refine x_t (by simp [PyData.eqv, typD, isiD, isNone]; done) ?_
  refine st_ ?_
  refine x_f (by simp [PyData.eqv, typD, isiD, isNone]; done) ?_
  refine st_ ?_
  refine x_f (by simp [PyData.eqv, typD, isiD, isNone]; done) ?_
  refine st_ ?_
  refine x_t (by simp [PyData.eqv, typD, isiD, isNone]; done) ?_
  refine st_ ?_
  refine O1.of (x := zpD _) rfl ?_
  refine st_ ?_
  try simp only [List.set_cons_zero, List.set_cons_succ, List.map_cons, List.map_nil, mdSl, putBack, wipeE, permL, List.filterMap_cons, List.filterMap_nil, List.getElem?_cons_zero, List.getElem?_cons_succ]
  rw [zipD_self]
  refine w_compD (fun _ => (some true).map PyData.bool) (Nat.le_trans hl (by decide)) (fun d hd => ?_) ?_
  · refine st_ ?_
    refine (h d hd).mono ?_
    rintro _ _ rfl
    exact ⟨rfl, rfl⟩
  rw [← List.map_filterMap]
  refine st_ ?_
  refine O1.of (all_some ds) ?_
  rfl
theorem s_like_ints (n : Nat) (ns : List Int) (hl : ns.length ≤ 10000) : O2 (C_like (n + 2) [.va (.list (ns.map .int)), .va (.list (ns.map .int))]) fun r en => r = .bool true :=
  s_like_list (n + 1) _ (by rw [List.length_map]; exact hl) fun d hd => by
    rw [List.mem_map] at hd
    obtain ⟨i, _, rfl⟩ := hd
    exact s_like_int n i
theorem s_like_rows (n : Nat) (nss : List (List Int)) (hl : nss.length ≤ 10000) (h : ∀ ns ∈ nss, ns.length ≤ 10000) : O2 (C_like (n + 3) [.va (.list (nss.map fun ns => .list (ns.map .int))), .va (.list (nss.map fun ns => .list (ns.map .int)))]) fun r en => r = .bool true :=
  s_like_list (n + 2) _ (by rw [List.length_map]; exact hl) fun d hd => by
    rw [List.mem_map] at hd
    obtain ⟨ns, hn, rfl⟩ := hd
    exact s_like_ints n ns (h ns hn)
end VL

namespace VL
open PySem PySem.Spec PyProof.Rows L2 G
theorem flat_ints (ns : List Int) : (ns.map PyData.int).all flatD = true := by
  rw [List.all_eq_true]
  intro d hd
  rw [List.mem_map] at hd
  obtain ⟨i, _, rfl⟩ := hd
  rfl
theorem lfL_ints : ∀ ns : List Int, lfL (ns.map .int) = true
  | [] => rfl
  | n :: ns => by
    rw [List.map_cons, lfL, lfL_ints ns]
    rfl
theorem lfL_ents : ∀ es : List Ent, lfL (es.map Ent.D) = true
  | [] => rfl
  | e :: es => by
    rw [List.map_cons, lfL, lfL_ents es]
    cases e <;> rfl
theorem lfD_acc (es : List Ent) : lfD (accD es) = true := by
  unfold accD
  rw [lfD]
  exact lfL_ents es
theorem atI_ints {ns : List Int} {i : Int} {k : Nat} {v : Int} (hi : i = (k : Int)) (h : ns[k]? = some v) : L2.atI (ns.map PyData.int) i = some (.int v) := by
  subst hi
  have hl := (List.getElem?_eq_some_iff.mp h).1
  unfold L2.atI L2.ixN
  rw [if_pos (by omega), if_pos (by rw [List.length_map]; omega)]
  simp [h]
def idxOf (es : List Ent) (k : Nat) : Option Int := match es[k]? with
  | some e => if e.isStruck then none else some (k : Int)
  | none => none
def idx (es : List Ent) : List Int := (List.range es.length).filterMap (idxOf es)
theorem idx_pairs (es : List Ent) : idx es = (pairs es).map (·.2) := by
  unfold idx pairs
  rw [List.map_filterMap]
  congr 1
  funext k
  unfold idxOf dayIx
  cases es[k]? with
  | none => rfl
  | some e => cases h : e.isStruck <;> simp [h]
theorem range_filterMap_sorted {q : Nat → Option Int} (h : ∀ k i, q k = some i → i = (k : Int)) : ∀ n, ((List.range n).filterMap q).Pairwise (· ≤ ·) := by
  intro n
  rw [List.pairwise_filterMap]
  refine List.Pairwise.imp ?_ (List.pairwise_lt_range (n := n))
  intro a b hab i hi j hj
  rw [h a i hi, h b j hj]
  omega
theorem sort_line (es : List Ent) : sortI (lineL es) = idx es := by
  refine (sortI_eq ?_ ?_).symm
  · rw [idx_pairs]
    unfold lineL
    exact ((sortP_perm (pairs es)).map _).symm
  · refine range_filterMap_sorted (fun k i hi => ?_) _
    unfold idxOf at hi
    split at hi
    · split at hi <;> cases hi
      rfl
    · cases hi
theorem s_line_right {es : List Ent} (h : AccOk es) (hl : es.length ≤ 1000) : O2 (C_line_right [.va (accD es)]) fun r en => r = .bool true := by
  have hz : ∀ n, n ≤ 1000 → n ≤ sizeLine := fun n h => Nat.le_trans h (by decide)
  have hll : (lineL es).length ≤ 1000 := Nat.le_trans (line_len es) hl
  generalize hbl : (lineL es).filter (isBillAt es) = bl
  generalize hpl : ((lineL es).filter fun i => !isBillAt es i) = pl
  have hbl1 : bl.length ≤ 1000 := by
    rw [← hbl]
    exact Nat.le_trans (List.length_filter_le _ _) hll
  have hpl1 : pl.length ≤ 1000 := by
    rw [← hpl]
    exact Nat.le_trans (List.length_filter_le _ _) hll
  have sb := s_bills_of h hl
  have sp := s_payments_of h hl
  rw [hbl] at sb
  rw [hpl] at sp
  refine w_fn 10 ?_
  try simp only [List.length_cons, List.length_nil, Nat.reduceAdd, Nat.reduceSub, List.replicate_succ, List.replicate_zero, List.cons_append, List.nil_append]
  unfold f__law_line_right
  refine st_ ?_
  refine (s_line h hl).mono ?_
  rintro _ _ rfl
  refine st_ ?_
  refine ⟨flat_ints _, ?_⟩
  try simp only [List.set_cons_zero, List.set_cons_succ, List.map_cons, List.map_nil, mdSl, putBack, wipeE, permL, List.filterMap_cons, List.filterMap_nil, List.getElem?_cons_zero, List.getElem?_cons_succ]
  refine st_ ?_
  refine x_f (by simp [PyData.eqv, typD, isiD, isNone]; done) ?_
  refine st_ ?_
  try simp only [List.set_cons_zero, List.set_cons_succ, List.map_cons, List.map_nil, mdSl, putBack, wipeE, permL, List.filterMap_cons, List.filterMap_nil, List.getElem?_cons_zero, List.getElem?_cons_succ]
  refine w_compD (fun _ => (some true).map PyData.bool) (hz _ hll) (fun i hi => ?_) ?_
  · refine st_ ?_
    refine (s_is_int _).mono ?_
    rintro _ _ rfl
    exact ⟨rfl, rfl⟩
  rw [← List.map_filterMap]
  refine st_ ?_
  refine O1.of (by
    unfold gAll
    simp only [boolsOf_map]
    rw [show ((lineL es).filterMap fun _ => some true).all id = true by
      rw [List.all_eq_true]
      intro b hb
      rw [List.mem_filterMap] at hb
      obtain ⟨_, _, e⟩ := hb
      cases e
      rfl]) ?_
  refine st_ ?_
  refine O1.of (gSortA_ints _) ?_
  refine st_ ?_
  unfold accD
  refine st_ ?_
  refine ⟨by rw [List.length_map]; exact ⟨by omega, by omega⟩, ?_⟩
  try simp only [List.set_cons_zero, List.set_cons_succ, List.map_cons, List.map_nil, mdSl, putBack, wipeE, permL, List.filterMap_cons, List.filterMap_nil, List.getElem?_cons_zero, List.getElem?_cons_succ]
  refine w_compD (fun k => (idxOf es k).map PyData.int) (by rw [List.length_range, List.length_map]; exact hz _ (by omega)) (fun k hk => ?_) ?_
  · have hk : k < es.length := by
      rw [List.mem_range, List.length_map] at hk
      omega
    have he : es[k]? = some es[k] := List.getElem?_eq_getElem hk
    generalize es[k] = e at he
    refine st_ ?_
    rw [Int.zero_add]
    refine O1.of (atI_map he) ?_
    refine st_ ?_
    refine O1.of e.ix0 ?_
    refine st_ ?_
    refine w_gne e.word_shaped (by decide +kernel) ?_
    rw [e.eq_struck]
    refine st_ ?_
    refine ⟨fun hs => ⟨?_, rfl⟩, fun hs => ?_⟩
    · have : e.isStruck = true := by simpa using hs
      show Option.map PyData.int (idxOf es k) = none
      simp only [idxOf, he, this, if_true, Option.map_none]
    · have hs : e.isStruck = false := by simpa using hs
      refine st_ ?_
      refine ⟨?_, rfl⟩
      show Option.map PyData.int (idxOf es k) = _
      simp only [idxOf, he, hs, Bool.false_eq_true, if_false, Option.map_some]
  have hp : List.filterMap (fun k => (idxOf es k).map PyData.int) (List.range ((es.map Ent.D).length : Int).toNat) = (idx es).map PyData.int := by
    rw [← List.map_filterMap]
    unfold idx
    rw [List.length_map, Int.toNat_natCast]
  rw [hp]
  refine st_ ?_
  refine w_gne (ints_shaped _) (ints_shaped _) ?_
  refine st_ ?_
  refine x_f (by
    show (!PyData.eqvAll _ _) = false
    rw [eqv_ints, sort_line]
    simp) ?_
  refine st_ ?_
  refine ⟨by rw [List.length_map]; exact ⟨by omega, by omega, by omega, by omega⟩, ?_⟩
  try simp only [List.set_cons_zero, List.set_cons_succ, List.map_cons, List.map_nil, mdSl, putBack, wipeE, permL, List.filterMap_cons, List.filterMap_nil, List.getElem?_cons_zero, List.getElem?_cons_succ]
  refine w_forD (fun i en => ∃ (s2 s8 s9 : Sl), en = [.va (accD es), .vn (.list ((lineL es).map .int)), s2, .un, .un, .un, .un, .un, s8, s9] ∧ ownLf s8 = true ∧ ownLf s9 = true) _ 0 _ ⟨_, _, _, rfl, rfl, rfl⟩ (fun i t en et hI => ?_) fun en hI => ?_
  · obtain ⟨s2, s8, s9, rfl, h8, h9⟩ := hI
    have ht : t = i ∧ i + 1 < (lineL es).length := by
      have e1 := (List.getElem?_eq_some_iff.mp et).1
      have e2 := (List.getElem?_eq_some_iff.mp et).2
      rw [List.length_range] at e1
      rw [List.getElem_range] at e2
      rw [List.length_map] at e1
      omega
    obtain ⟨rfl, ht⟩ := ht
    clear et
    have hsp : (sortP (pairs es)).length = (lineL es).length := by
      unfold lineL
      rw [List.length_map]
    have a1 : (sortP (pairs es))[t]? = some (sortP (pairs es))[t] := List.getElem?_eq_getElem (by omega)
    have a2 : (sortP (pairs es))[t + 1]? = some (sortP (pairs es))[t + 1] := List.getElem?_eq_getElem (by omega)
    have ap : leP (sortP (pairs es))[t] (sortP (pairs es))[t + 1] = true := List.pairwise_iff_getElem.mp (sortP_pw (pairs es)) t (t + 1) (by omega) (by omega) (by omega)
    generalize (sortP (pairs es))[t] = p1 at a1 ap
    generalize (sortP (pairs es))[t + 1] = p2 at a2 ap
    have l1 : (lineL es)[t]? = some p1.2 := by
      unfold lineL
      rw [List.getElem?_map, a1]
      rfl
    have l2 : (lineL es)[t + 1]? = some p2.2 := by
      unfold lineL
      rw [List.getElem?_map, a2]
      rfl
    obtain ⟨k1, e1, g1, hs1, rfl⟩ := pairs_mem ((sortP_perm _).subset (List.mem_of_getElem? a1))
    obtain ⟨k2, e2, g2, hs2, rfl⟩ := pairs_mem ((sortP_perm _).subset (List.mem_of_getElem? a2))
    rw [leP_iff] at ap
    simp only at ap l1 l2
    refine w_turn ?_
    refine st_ ?_
    refine O1.of (atI_ints (by omega) l1) ?_
    unfold accD
    refine st_ ?_
    refine O1.of (atI_map g1) ?_
    refine st_ ?_
    refine O1.of (e1.ix1 hs1) ?_
    refine st_ ?_
    refine O1.of (atI_ints (by omega) l2) ?_
    refine st_ ?_
    refine O1.of (atI_map g2) ?_
    refine st_ ?_
    refine O1.of (e2.ix1 hs2) ?_
    refine st_ ?_
    refine x_f (decide_eq_false (by omega)) ?_
    refine st_ ?_
    refine ⟨fun hq => ?_, fun _ => ?_⟩
    · have hq : e1.day = e2.day := by simpa [PyData.eqv] using hq
      refine st_ ?_
      refine O1.of (atI_ints (by omega) l1) ?_
      refine st_ ?_
      refine O1.of (atI_ints (by omega) l2) ?_
      refine st_ ?_
      refine x_f (decide_eq_false (by omega)) ?_
      refine st_ ?_
      exact ⟨_, rfl, _, _, _, rfl, rfl, rfl⟩
    · refine st_ ?_
      exact ⟨_, rfl, _, _, _, rfl, rfl, rfl⟩
  · obtain ⟨s2, s8, s9, rfl, h8, h9⟩ := hI
    have hmem : ∀ i ∈ lineL es, ∃ (k : Nat) (e : Ent), es[k]? = some e ∧ i = (k : Int) ∧ isBillAt es i = e.isBill := fun i hi => by
      obtain ⟨k, e, he, hs, rfl⟩ := line_mem hi
      exact ⟨k, e, he, rfl, by unfold isBillAt; rw [Int.toNat_natCast, he]⟩
    refine st_ ?_
    try simp only [List.set_cons_zero, List.set_cons_succ, List.map_cons, List.map_nil, mdSl, putBack, wipeE, permL, List.filterMap_cons, List.filterMap_nil, List.getElem?_cons_zero, List.getElem?_cons_succ]
    refine w_compD (fun i => (if isBillAt es i then some i else none).map PyData.int) (hz _ hll) (fun i hi => ?_) ?_
    · obtain ⟨k, e, he, rfl, hb⟩ := hmem i hi
      refine st_ ?_
      unfold accD
      refine st_ ?_
      refine O1.of (atI_map he) ?_
      refine st_ ?_
      refine O1.of e.ix0 ?_
      refine st_ ?_
      refine w_geq e.word_shaped (by decide +kernel) ?_
      rw [e.eq_bill]
      refine st_ ?_
      rw [hb]
      refine ⟨fun hs => ⟨?_, rfl⟩, fun hs => ?_⟩
      · rw [hs]
        rfl
      · refine st_ ?_
        rw [hs]
        exact ⟨rfl, rfl⟩
    rw [← List.map_filterMap, show List.filterMap (fun i => if isBillAt es i then some i else none) (lineL es) = bl by rw [← hbl, ← List.filterMap_eq_filter]; rfl]
    refine st_ ?_
    try simp only [List.set_cons_zero, List.set_cons_succ, List.map_cons, List.map_nil, mdSl, putBack, wipeE, permL, List.filterMap_cons, List.filterMap_nil, List.getElem?_cons_zero, List.getElem?_cons_succ]
    refine st_ ?_
    try simp only [List.set_cons_zero, List.set_cons_succ, List.map_cons, List.map_nil, mdSl, putBack, wipeE, permL, List.filterMap_cons, List.filterMap_nil, List.getElem?_cons_zero, List.getElem?_cons_succ]
    refine w_compD (fun i => (if !isBillAt es i then some i else none).map PyData.int) (hz _ hll) (fun i hi => ?_) ?_
    · obtain ⟨k, e, he, rfl, hb⟩ := hmem i hi
      refine st_ ?_
      unfold accD
      refine st_ ?_
      refine O1.of (atI_map he) ?_
      refine st_ ?_
      refine O1.of e.ix0 ?_
      refine st_ ?_
      refine w_gne e.word_shaped (by decide +kernel) ?_
      rw [e.eq_bill]
      refine st_ ?_
      rw [hb]
      refine ⟨fun hs => ⟨?_, rfl⟩, fun hs => ?_⟩
      · rw [hs]
        rfl
      · refine st_ ?_
        rw [hs]
        exact ⟨rfl, rfl⟩
    rw [← List.map_filterMap, show List.filterMap (fun i => if !isBillAt es i then some i else none) (lineL es) = pl by rw [← hpl, ← List.filterMap_eq_filter]; rfl]
    refine st_ ?_
    try simp only [List.set_cons_zero, List.set_cons_succ, List.map_cons, List.map_nil, mdSl, putBack, wipeE, permL, List.filterMap_cons, List.filterMap_nil, List.getElem?_cons_zero, List.getElem?_cons_succ]
    refine st_ ?_
    refine (s_line h hl).mono ?_
    rintro _ _ rfl
    refine ⟨flat_ints _, ?_⟩
    try simp only [List.set_cons_zero, List.set_cons_succ, List.map_cons, List.map_nil, mdSl, putBack, wipeE, permL, List.filterMap_cons, List.filterMap_nil, List.getElem?_cons_zero, List.getElem?_cons_succ]
    refine st_ ?_
    refine sb.mono ?_
    rintro _ _ rfl
    refine ⟨flat_ints _, ?_⟩
    try simp only [List.set_cons_zero, List.set_cons_succ, List.map_cons, List.map_nil, mdSl, putBack, wipeE, permL, List.filterMap_cons, List.filterMap_nil, List.getElem?_cons_zero, List.getElem?_cons_succ]
    refine st_ ?_
    refine sp.mono ?_
    rintro _ _ rfl
    refine ⟨flat_ints _, ?_⟩
    try simp only [List.set_cons_zero, List.set_cons_succ, List.map_cons, List.map_nil, mdSl, putBack, wipeE, permL, List.filterMap_cons, List.filterMap_nil, List.getElem?_cons_zero, List.getElem?_cons_succ]
    refine st_ ?_
    try simp only [List.set_cons_zero, List.set_cons_succ, List.map_cons, List.map_nil, mdSl, putBack, wipeE, permL, List.filterMap_cons, List.filterMap_nil, List.getElem?_cons_zero, List.getElem?_cons_succ]
    refine sb.mono ?_
    rintro _ _ rfl
    refine ⟨flat_ints _, ?_⟩
    try simp only [List.set_cons_zero, List.set_cons_succ, List.map_cons, List.map_nil, mdSl, putBack, wipeE, permL, List.filterMap_cons, List.filterMap_nil, List.getElem?_cons_zero, List.getElem?_cons_succ]
    refine st_ ?_
    refine sp.mono ?_
    rintro _ _ rfl
    refine ⟨flat_ints _, ?_⟩
    try simp only [List.set_cons_zero, List.set_cons_succ, List.map_cons, List.map_nil, mdSl, putBack, wipeE, permL, List.filterMap_cons, List.filterMap_nil, List.getElem?_cons_zero, List.getElem?_cons_succ]
    refine st_ ?_
    refine O1.of (x := gCat _ _) rfl ?_
    refine st_ ?_
    try simp only [List.set_cons_zero, List.set_cons_succ, List.map_cons, List.map_nil, mdSl, putBack, wipeE, permL, List.filterMap_cons, List.filterMap_nil, List.getElem?_cons_zero, List.getElem?_cons_succ]
    refine sti_ ?_
    have hzz : sizeLine = 16777216 := rfl
    refine (s_like_rows 17 [lineL es, bl, pl, bl, pl] (by simp) (by
      intro ns hn
      simp only [List.mem_cons, List.not_mem_nil, or_false] at hn
      rcases hn with rfl | rfl | rfl | rfl | rfl <;> omega)).mono ?_
    rintro _ _ rfl
    refine ⟨rfl, ?_⟩
    refine st_ ?_
    try simp only [List.set_cons_zero, List.set_cons_succ, List.map_cons, List.map_nil, mdSl, putBack, wipeE, permL, List.filterMap_cons, List.filterMap_nil, List.getElem?_cons_zero, List.getElem?_cons_succ]
    refine st_ ?_
    refine O1.of (x := gCat _ _) rfl ?_
    have hle : ∀ n, n ≤ 1000 → n + 6 < sizeLine := fun n hn => by omega
    refine ⟨_, rfl, ⟨?_, ?_, ?_, ?_⟩, ?_⟩
    · have r1 : ∀ ns : List Int, ns.length ≤ 1000 → roomL 6 (.list (ns.map .int)) = true := fun ns hn => decide_eq_true (by rw [List.length_map]; exact hle _ hn)
      show (roomL 6 _ && (roomL 6 _ && (roomL 6 _ && (roomL 6 _ && (roomL 6 _ && (roomL 6 _ && true)))))) = true
      rw [r1 _ hll, r1 _ hbl1, r1 _ hpl1]
      rfl
    · try simp only [List.set_cons_zero, List.set_cons_succ, List.map_cons, List.map_nil, mdSl, putBack, wipeE, permL, List.filterMap_cons, List.filterMap_nil, List.getElem?_cons_zero, List.getElem?_cons_succ]
      simp only [List.all_cons, List.all_nil, h8, h9, Bool.and_true, Bool.true_and]
      simp only [ownLf, lfL_ints, Bool.and_true, Bool.true_and]
    · rfl
    · try simp only [List.set_cons_zero, List.set_cons_succ, List.map_cons, List.map_nil, mdSl, putBack, wipeE, permL, List.filterMap_cons, List.filterMap_nil, List.getElem?_cons_zero, List.getElem?_cons_succ]
      simp only [List.length_cons, List.length_nil]
      decide
    try simp only [List.set_cons_zero, List.set_cons_succ, List.map_cons, List.map_nil, mdSl, putBack, wipeE, permL, List.filterMap_cons, List.filterMap_nil, List.getElem?_cons_zero, List.getElem?_cons_succ]
    simp only [clean, lfD_acc, if_true]
    refine st_ ?_
    refine (s_line h hl).mono ?_
    rintro _ _ rfl
    try simp only [List.set_cons_zero, List.set_cons_succ, List.map_cons, List.map_nil, mdSl, putBack, wipeE, permL, List.filterMap_cons, List.filterMap_nil, List.getElem?_cons_zero, List.getElem?_cons_succ]
    refine st_ ?_
    refine sb.mono ?_
    rintro _ _ rfl
    try simp only [List.set_cons_zero, List.set_cons_succ, List.map_cons, List.map_nil, mdSl, putBack, wipeE, permL, List.filterMap_cons, List.filterMap_nil, List.getElem?_cons_zero, List.getElem?_cons_succ]
    refine st_ ?_
    refine sp.mono ?_
    rintro _ _ rfl
    try simp only [List.set_cons_zero, List.set_cons_succ, List.map_cons, List.map_nil, mdSl, putBack, wipeE, permL, List.filterMap_cons, List.filterMap_nil, List.getElem?_cons_zero, List.getElem?_cons_succ]
    refine st_ ?_
    refine (s_like_rows 17 [lineL es, bl, pl] (by simp) (by
      intro ns hn
      simp only [List.mem_cons, List.not_mem_nil, or_false] at hn
      rcases hn with rfl | rfl | rfl <;> omega)).mono ?_
    rintro _ _ rfl
    exact ⟨rfl, rfl⟩
end VL

namespace VL
open PySem PySem.Spec PyProof.Rows L2 G
theorem s_law {ns : List Int} (hl : ns.length ≤ 1000) : O2 (C_law [.va (.list (ns.map .int))]) fun r en => r = .bool true := by
  obtain ⟨ms, hms, hml, _⟩ := cut_map ns none (some 6)
  refine w_fn 4 ?_
  try simp only [List.length_cons, List.length_nil, Nat.reduceAdd, Nat.reduceSub, List.replicate_succ, List.replicate_zero, List.cons_append, List.nil_append]
  unfold f_law
  refine st_ ?_
  refine O1.of (x := sliceD _ _ _) (by show some (PyData.list _) = _; rw [hms]) ?_
  generalize (50154415921290292141959128101272356406151908383025676706710125686351739850816495232061119618171 : Int) = great
  refine st_ ?_
  refine O1.of (x := gAdd _ _) (if_pos (by
    rw [List.length_map]
    simp only [List.length_cons, List.length_nil]
    exact Nat.le_trans (show _ ≤ 1001 by omega) (by decide))) ?_
  refine st_ ?_
  try simp only [List.set_cons_zero, List.set_cons_succ, List.map_cons, List.map_nil, mdSl, putBack, wipeE, permL, List.filterMap_cons, List.filterMap_nil, List.getElem?_cons_zero, List.getElem?_cons_succ]
  show O1 (forD _ ((great :: ms).map PyData.int) _) _
  refine w_forD (fun i en => ∃ (s2 s3 : Sl), en = [.va (.list (ns.map .int)), .va (.int great), s2, s3]) _ 0 _ ⟨_, _, rfl⟩ (fun i t en et hI => ?_) fun en hI => ?_
  · obtain ⟨s2, s3, rfl⟩ := hI
    clear et
    refine w_turn ?_
    refine st_ ?_
    try simp only [List.set_cons_zero, List.set_cons_succ, List.map_cons, List.map_nil, mdSl, putBack, wipeE, permL, List.filterMap_cons, List.filterMap_nil, List.getElem?_cons_zero, List.getElem?_cons_succ]
    refine (s_filled t).mono ?_
    rintro _ _ ⟨rfl, hJ⟩
    try simp only [List.set_cons_zero, List.set_cons_succ, List.map_cons, List.map_nil, mdSl, putBack, wipeE, permL, List.filterMap_cons, List.filterMap_nil, List.getElem?_cons_zero, List.getElem?_cons_succ]
    refine st_ ?_
    try simp only [List.set_cons_zero, List.set_cons_succ, List.map_cons, List.map_nil, mdSl, putBack, wipeE, permL, List.filterMap_cons, List.filterMap_nil, List.getElem?_cons_zero, List.getElem?_cons_succ]
    refine (s_drawn (upto := 40) hJ (by decide) (by decide) (by decide)).mono ?_
    rintro _ _ ⟨es, js', s, rfl, hel, hok, rfl, hJ'⟩
    refine st_ ?_
    try simp only [List.set_cons_zero, List.set_cons_succ, List.map_cons, List.map_nil, mdSl, putBack, wipeE, permL, List.filterMap_cons, List.filterMap_nil, List.getElem?_cons_zero, List.getElem?_cons_succ]
    refine (s_line_right hok (by omega)).mono ?_
    rintro _ _ rfl
    refine st_ ?_
    exact ⟨_, rfl, _, _, rfl⟩
  · obtain ⟨s2, s3, rfl⟩ := hI
    refine st_ ?_
    refine (s_cellwise hl).mono ?_
    rintro _ _ ⟨es, rfl, hel, hok, he⟩
    refine st_ ?_
    try simp only [List.set_cons_zero, List.set_cons_succ, List.map_cons, List.map_nil, mdSl, putBack, wipeE, permL, List.filterMap_cons, List.filterMap_nil, List.getElem?_cons_zero, List.getElem?_cons_succ]
    refine (s_line_right hok (by omega)).mono ?_
    rintro _ _ rfl
    rfl
end VL

open PySem PySem.W in
open PyProof.Rows in
set_option maxRecDepth 100000 in
set_option maxHeartbeats 0 in
theorem PySem.Challenge.cw_oldestbills_k04_the_line_holds : PySem.Challenge.rw_oldestbills_k04_the_line.Holds := by
  w_on
  o_law
  k_head
  (case hw => w_witness2)
  k_fill
  refine VL.law_walk (l := PySem.Challenge.rw_oldestbills_k04_the_line) (F := G.C_law) (k := 28) (fun ns hl => VL.s_law (by omega)) rfl rfl ⟨rfl, by decide, by decide⟩ (fun w h Y => PySem.W.kIn_of Y) (fun w => by kernel_rfl) ?G
  case G =>
    intro w mg fa h KX GN hmg
    refine (fun (T : G.Txt _ mg) => VL.law_fn (st := G.s_law) T.d_law hmg (fun _ _ _ _ _ _ _ => rfl) fun base => G.dd_law (tb := []) T) ?T
    case T =>
      refine' ⟨?z_all, ?z_bool, ?z_int, ?z_isinstance, ?z_len, ?z_list, ?z_max, ?z_min, ?z_range, ?z_sorted, ?z_str, ?z_sum, ?z_tuple, ?z_type, ?z_zip, ?d_is_integer, ?d_is_sum, ?d_has_entry_form, ?d_names_its_bill, ?d_fits_account, ?d_is_index, ?d_is_bill_index, ?d_check_account, ?d_line, ?d_along, ?d_bills_of, ?d_bills_along, ?d_payments_of, ?d_payments_along, ?d__law_filled, ?d__law_pick, ?d__law_is_int, ?d__law_like, ?d__law_frame, ?d__law_slips, ?d__law_named, ?d__law_many, ?d__law_drawn, ?d__law_cellwise, ?d__law_line_right, ?d_law, ?k_bills_of_account, ?k_line_account, ?k_payments_of_account⟩
      (case z_all => refine' PySem.W.mg_none_of KX GN ?z; (case z => k_is))
      (case z_bool => refine' PySem.W.mg_none_of KX GN ?z; (case z => k_is))
      (case z_int => refine' PySem.W.mg_none_of KX GN ?z; (case z => k_is))
      (case z_isinstance => refine' PySem.W.mg_none_of KX GN ?z; (case z => k_is))
      (case z_len => refine' PySem.W.mg_none_of KX GN ?z; (case z => k_is))
      (case z_list => refine' PySem.W.mg_none_of KX GN ?z; (case z => k_is))
      (case z_max => refine' PySem.W.mg_none_of KX GN ?z; (case z => k_is))
      (case z_min => refine' PySem.W.mg_none_of KX GN ?z; (case z => k_is))
      (case z_range => refine' PySem.W.mg_none_of KX GN ?z; (case z => k_is))
      (case z_sorted => refine' PySem.W.mg_none_of KX GN ?z; (case z => k_is))
      (case z_str => refine' PySem.W.mg_none_of KX GN ?z; (case z => k_is))
      (case z_sum => refine' PySem.W.mg_none_of KX GN ?z; (case z => k_is))
      (case z_tuple => refine' PySem.W.mg_none_of KX GN ?z; (case z => k_is))
      (case z_type => refine' PySem.W.mg_none_of KX GN ?z; (case z => k_is))
      (case z_zip => refine' PySem.W.mg_none_of KX GN ?z; (case z => k_is))
      (case d_is_integer => refine' VL.nmd_mk KX GN ?a ?l ?c ?k G.bd_is_integer; (case a => k_is); (case l => k_is); (case c => k_is); (case k => k_is))
      (case d_is_sum => refine' VL.nmd_mk KX GN ?a ?l ?c ?k G.bd_is_sum; (case a => k_is); (case l => k_is); (case c => k_is); (case k => k_is))
      (case d_has_entry_form => refine' VL.nmd_mk KX GN ?a ?l ?c ?k G.bd_has_entry_form; (case a => k_is); (case l => k_is); (case c => k_is); (case k => k_is))
      (case d_names_its_bill => refine' VL.nmd_mk KX GN ?a ?l ?c ?k G.bd_names_its_bill; (case a => k_is); (case l => k_is); (case c => k_is); (case k => k_is))
      (case d_fits_account => refine' VL.nmd_mk KX GN ?a ?l ?c ?k G.bd_fits_account; (case a => k_is); (case l => k_is); (case c => k_is); (case k => k_is))
      (case d_is_index => refine' VL.nmd_mk KX GN ?a ?l ?c ?k G.bd_is_index; (case a => k_is); (case l => k_is); (case c => k_is); (case k => k_is))
      (case d_is_bill_index => refine' VL.nmd_mk KX GN ?a ?l ?c ?k G.bd_is_bill_index; (case a => k_is); (case l => k_is); (case c => k_is); (case k => k_is))
      (case d_check_account => refine' VL.nmd_mk KX GN ?a ?l ?c ?k G.bd_check_account; (case a => k_is); (case l => k_is); (case c => k_is); (case k => k_is))
      (case d_line => refine' VL.nmd_mk KX GN ?a ?l ?c ?k G.bd_line; (case a => k_is); (case l => k_is); (case c => k_is); (case k => k_is))
      (case d_along => refine' VL.nmd_mk KX GN ?a ?l ?c ?k G.bd_along; (case a => k_is); (case l => k_is); (case c => k_is); (case k => k_is))
      (case d_bills_of => refine' VL.nmd_mk KX GN ?a ?l ?c ?k G.bd_bills_of; (case a => k_is); (case l => k_is); (case c => k_is); (case k => k_is))
      (case d_bills_along => refine' VL.nmd_mk KX GN ?a ?l ?c ?k G.bd_bills_along; (case a => k_is); (case l => k_is); (case c => k_is); (case k => k_is))
      (case d_payments_of => refine' VL.nmd_mk KX GN ?a ?l ?c ?k G.bd_payments_of; (case a => k_is); (case l => k_is); (case c => k_is); (case k => k_is))
      (case d_payments_along => refine' VL.nmd_mk KX GN ?a ?l ?c ?k G.bd_payments_along; (case a => k_is); (case l => k_is); (case c => k_is); (case k => k_is))
      (case d__law_filled => refine' VL.nmd_mk KX GN ?a ?l ?c ?k G.bd__law_filled; (case a => k_is); (case l => k_is); (case c => k_is); (case k => k_is))
      (case d__law_pick => refine' VL.nmd_mk KX GN ?a ?l ?c ?k G.bd__law_pick; (case a => k_is); (case l => k_is); (case c => k_is); (case k => k_is))
      (case d__law_is_int => refine' VL.nmd_mk KX GN ?a ?l ?c ?k G.bd__law_is_int; (case a => k_is); (case l => k_is); (case c => k_is); (case k => k_is))
      (case d__law_like => refine' VL.nmd_mk KX GN ?a ?l ?c ?k G.bd__law_like; (case a => k_is); (case l => k_is); (case c => k_is); (case k => k_is))
      (case d__law_frame => refine' VL.nmd_mk KX GN ?a ?l ?c ?k G.bd__law_frame; (case a => k_is); (case l => k_is); (case c => k_is); (case k => k_is))
      (case d__law_slips => refine' VL.nmd_mk KX GN ?a ?l ?c ?k G.bd__law_slips; (case a => k_is); (case l => k_is); (case c => k_is); (case k => k_is))
      (case d__law_named => refine' VL.nmd_mk KX GN ?a ?l ?c ?k G.bd__law_named; (case a => k_is); (case l => k_is); (case c => k_is); (case k => k_is))
      (case d__law_many => refine' VL.nmd_mk KX GN ?a ?l ?c ?k G.bd__law_many; (case a => k_is); (case l => k_is); (case c => k_is); (case k => k_is))
      (case d__law_drawn => refine' VL.nmd_mk KX GN ?a ?l ?c ?k G.bd__law_drawn; (case a => k_is); (case l => k_is); (case c => k_is); (case k => k_is))
      (case d__law_cellwise => refine' VL.nmd_mk KX GN ?a ?l ?c ?k G.bd__law_cellwise; (case a => k_is); (case l => k_is); (case c => k_is); (case k => k_is))
      (case d__law_line_right => refine' VL.nmd_mk KX GN ?a ?l ?c ?k G.bd__law_line_right; (case a => k_is); (case l => k_is); (case c => k_is); (case k => k_is))
      (case d_law => refine' VL.nmd_mk KX GN ?a ?l ?c ?k G.bd_law; (case a => k_is); (case l => k_is); (case c => k_is); (case k => k_is))
      (case k_bills_of_account => refine' VL.kwd_of (VL.nmd_mk KX GN ?a ?l ?c ?k G.bd_bills_of) G.bk_bills_of_account; (case a => k_is); (case l => k_is); (case c => k_is); (case k => k_is))
      (case k_line_account => refine' VL.kwd_of (VL.nmd_mk KX GN ?a ?l ?c ?k G.bd_line) G.bk_line_account; (case a => k_is); (case l => k_is); (case c => k_is); (case k => k_is))
      (case k_payments_of_account => refine' VL.kwd_of (VL.nmd_mk KX GN ?a ?l ?c ?k G.bd_payments_of) G.bk_payments_of_account; (case a => k_is); (case l => k_is); (case c => k_is); (case k => k_is))

