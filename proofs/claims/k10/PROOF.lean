import PyProof.Rows.All
import Wide.All
import OpenK.AllK
import Wide.FinOn
import HandS.ForMost
import HandS.IsInst
import HandS.Wide
import HandS.SortRule
import HandS.SortInts
import HandS.TupSets
import HandS.Zip
import HandS.Conv
import HandS.Flow
import HandS.Lambda
import HandS.Keys
import HandS.More
import PyProof.TypeEq
import HandS.MakeKwOnly
import HandS.DictTup
import HandS.DictComp
import HandS.RaiseMore
import HandS.Style
import KE.SortData
import HandS.Deep
import HandS.SortKw
import HandS.SetFor
import KE.SortUse
import HandS.TupAny
import KE.KEqDict
import PyProof.DictFindH
import HandS.TupLe
import HandS.EndTab
import KE.KNestM
import PySem.Challenge.RW_oldestbills_k10_pairs_that_moved
set_option Elab.async false
set_option linter.all false
set_option maxRecDepth 100000
set_option maxHeartbeats 4000000
namespace VL
open PySem PySem.Spec
open PyProof.Rows L2

abbrev D := PyData
/-- not a table of code objects (a lambda's making writes into one) -/
def NT (o : HO) : Prop := ∀ ps, o ≠ .tbl ps
/-- something that is no tuple stands at b -/
def nt (H : Hp) (b : Addr) : Prop := ∃ o, H b = some o ∧ ∀ xs, o ≠ .tup xs
theorem nt.ne {H : Hp} {b : Addr} (h : nt H b) : H b ≠ none := by
  obtain ⟨o, e, _⟩ := h
  rw [e]
  exact fun z => nomatch z
/-- a def's places: its lists and dicts that are written; the tables that its lambdas are noted in -/
structure Pl where
  ps : List Nat
  tb : List (Addr × Str)
instance : Membership Nat Pl := ⟨fun P i => i ∈ P.ps⟩
instance {i : Nat} {P : Pl} : Decidable (i ∈ P) := inferInstanceAs (Decidable (i ∈ P.ps))

/-! ### data in the heap; B: the addresses that may not be reached -/
mutual
inductive Rp (H : Hp) (B : Addr → Prop) : D → V → Prop
  | non : Rp H B .none .non
  | bl (b : Bool) : Rp H B (.bool b) (.bl b)
  | int (i : Int) : Rp H B (.int i) (.int i)
  | str (x : Str) : Rp H B (.str x) (.str x)
  | lst {a : Addr} {xs : List V} {ds : List D} : ¬ B a → Rd H a (.lst xs) → RpL H B ds xs → Rp H B (.list ds) (.ref a)
  | tup {a : Addr} {xs : List V} {ds : List D} : ¬ B a → H a = some (.tup xs) → RpL H B ds xs → Rp H B (.tuple ds) (.ref a)
inductive RpL (H : Hp) (B : Addr → Prop) : List D → List V → Prop
  | nil : RpL H B [] []
  | cons {d : D} {v : V} {ds : List D} {vs : List V} : Rp H B d v → RpL H B ds vs → RpL H B (d :: ds) (v :: vs)
end

section
variable {H H' : Hp} {B B' : Addr → Prop}
theorem Rd.ne {a : Addr} {u : HO} (r : Rd H a u) : H a ≠ none := by
  rcases r with r | ⟨o, r⟩ <;> (rw [r]; exact fun z => nomatch z)
theorem Rd.keep {a : Addr} {u : HO} (r : Rd H a u) (k : ∀ o, H a = some o → NT o → H' a = some o) (nt : NT u := by intro _ z; exact nomatch z) : Rd H' a u := by
  rcases r with r | ⟨o, r⟩
  · exact .inl (k _ r nt)
  · exact .inr ⟨o, k _ r fun _ z => nomatch z⟩
mutual
theorem Rp.move (k : ∀ b o, H b = some o → NT o → ¬ B b → H' b = some o ∧ ¬ B' b) : ∀ {d : D} {v : V}, Rp H B d v → Rp H' B' d v
  | _, _, .non => .non
  | _, _, .bl b => .bl b
  | _, _, .int i => .int i
  | _, _, .str x => .str x
  | _, _, .lst (a := a) (xs := xs) nb r rs => by
    have h : ¬ B' a := by
      rcases r with r | ⟨o, r⟩
      · exact (k _ _ r (fun _ z => nomatch z) nb).2
      · exact (k _ _ r (fun _ z => nomatch z) nb).2
    exact .lst h (Rd.keep r fun o e t => (k _ _ e t nb).1) (RpL.move k rs)
  | _, _, .tup nb e rs => .tup (k _ _ e (fun _ z => nomatch z) nb).2 (k _ _ e (fun _ z => nomatch z) nb).1 (RpL.move k rs)
theorem RpL.move (k : ∀ b o, H b = some o → NT o → ¬ B b → H' b = some o ∧ ¬ B' b) : ∀ {ds : List D} {vs : List V}, RpL H B ds vs → RpL H' B' ds vs
  | _, _, .nil => .nil
  | _, _, .cons r rs => .cons (Rp.move k r) (RpL.move k rs)
end
theorem RpL.length : ∀ {ds : List D} {vs : List V}, RpL H B ds vs → ds.length = vs.length
  | _, _, .nil => rfl
  | _, _, .cons _ rs => by simp [RpL.length rs]
theorem RpL.get : ∀ {ds : List D} {vs : List V} {i : Nat} {d : D}, RpL H B ds vs → ds[i]? = some d → ∃ v, vs[i]? = some v ∧ Rp H B d v
  | _, _, _, _, .nil, e => by simp at e
  | _, _, 0, _, .cons r _, e => by simp at e; subst e; exact ⟨_, rfl, r⟩
  | _, _, i + 1, _, .cons _ rs, e => by
    obtain ⟨v, h1, h2⟩ := RpL.get (i := i) rs (by simpa using e)
    exact ⟨v, by simpa using h1, h2⟩
theorem RpL.getV : ∀ {ds : List D} {vs : List V} {i : Nat} {v : V}, RpL H B ds vs → vs[i]? = some v → ∃ d, ds[i]? = some d ∧ Rp H B d v
  | _, _, _, _, .nil, e => by simp at e
  | _, _, 0, _, .cons r _, e => by simp at e; subst e; exact ⟨_, rfl, r⟩
  | _, _, i + 1, _, .cons _ rs, e => by
    obtain ⟨v, h1, h2⟩ := RpL.getV (i := i) rs (by simpa using e)
    exact ⟨v, by simpa using h1, h2⟩
theorem RpL.append : ∀ {ds es : List D} {vs ws : List V}, RpL H B ds vs → RpL H B es ws → RpL H B (ds ++ es) (vs ++ ws)
  | _, _, _, _, .nil, q => q
  | _, _, _, _, .cons r rs, q => .cons r (RpL.append rs q)
theorem RpL.take (n : Nat) : ∀ {ds : List D} {vs : List V}, RpL H B ds vs → RpL H B (ds.take n) (vs.take n) := by
  induction n with
  | zero => intro ds vs _; exact .nil
  | succ n ih =>
    intro ds vs r
    cases r with
    | nil => exact .nil
    | cons r rs => exact .cons r (ih rs)
theorem RpL.drop (n : Nat) : ∀ {ds : List D} {vs : List V}, RpL H B ds vs → RpL H B (ds.drop n) (vs.drop n) := by
  induction n with
  | zero => intro ds vs r; exact r
  | succ n ih =>
    intro ds vs r
    cases r with
    | nil => exact .nil
    | cons r rs => exact ih rs
theorem RpL.set {d : D} {v : V} (q : Rp H B d v) : ∀ {ds : List D} {vs : List V} (i : Nat), RpL H B ds vs → RpL H B (ds.set i d) (vs.set i v)
  | _, _, _, .nil => .nil
  | _, _, 0, .cons _ rs => .cons q rs
  | _, _, i + 1, .cons r rs => .cons r (RpL.set q i rs)
theorem RpL.reverse : ∀ {ds : List D} {vs : List V}, RpL H B ds vs → RpL H B ds.reverse vs.reverse
  | _, _, .nil => .nil
  | _, _, .cons r rs => by
    rw [List.reverse_cons, List.reverse_cons]
    exact RpL.append (RpL.reverse rs) (.cons r .nil)
theorem RpL.ints : ∀ {ns : List Int} {vs : List V}, RpL H B (ns.map .int) vs → vs = ns.map V.int
  | [], _, .nil => rfl
  | n :: ns, _, .cons r rs => by
    cases r
    rw [List.map_cons, RpL.ints rs]
theorem RpL.bools : ∀ {ns : List Bool} {vs : List V}, RpL H B (ns.map .bool) vs → vs = ns.map V.bl
  | [], _, .nil => rfl
  | n :: ns, _, .cons r rs => by
    cases r
    rw [List.map_cons, RpL.bools rs]
theorem RpL.ofInts : ∀ (ns : List Int), RpL H B (ns.map .int) (ns.map V.int)
  | [] => .nil
  | n :: ns => .cons (.int n) (RpL.ofInts ns)
mutual
theorem Rp.dp {K : PySem.W.Frag} : ∀ {d : D} {v : V}, Rp H B d v → Dp K H v d
  | _, _, .non => .non
  | _, _, .bl b => .bl b
  | _, _, .int i => .int i
  | _, _, .str x => .str x
  | _, _, .lst _ r rs => .lst (.inl r) (RpL.dp rs)
  | _, _, .tup _ e rs => .tup (.inl (.inl e)) (RpL.dp rs)
theorem RpL.dp {K : PySem.W.Frag} : ∀ {ds : List D} {vs : List V}, RpL H B ds vs → DpAll K H vs ds
  | _, _, .nil => .nil
  | _, _, .cons r rs => .cons (Rp.dp r) (RpL.dp rs)
end
end

/-! ### .. with lists that may be written -/
mutual
inductive Rx (H : Hp) (B : Addr → Prop) : D → V → Prop
  | non : Rx H B .none .non
  | bl (b : Bool) : Rx H B (.bool b) (.bl b)
  | int (i : Int) : Rx H B (.int i) (.int i)
  | str (x : Str) : Rx H B (.str x) (.str x)
  | lst {a : Addr} {xs : List V} {ds : List D} : ¬ B a → H a = some (.lst xs) → RxL H B ds xs → Rx H B (.list ds) (.ref a)
  | tup {a : Addr} {xs : List V} {ds : List D} : ¬ B a → H a = some (.tup xs) → RxL H B ds xs → Rx H B (.tuple ds) (.ref a)
inductive RxL (H : Hp) (B : Addr → Prop) : List D → List V → Prop
  | nil : RxL H B [] []
  | cons {d : D} {v : V} {ds : List D} {vs : List V} : Rx H B d v → RxL H B ds vs → RxL H B (d :: ds) (v :: vs)
end
section
variable {H H' : Hp} {B B' : Addr → Prop}
mutual
theorem Rx.move (k : ∀ b o, H b = some o → NT o → ¬ B b → H' b = some o ∧ ¬ B' b) : ∀ {d : D} {v : V}, Rx H B d v → Rx H' B' d v
  | _, _, .non => .non
  | _, _, .bl b => .bl b
  | _, _, .int i => .int i
  | _, _, .str x => .str x
  | _, _, .lst nb e rs => .lst (k _ _ e (fun _ z => nomatch z) nb).2 (k _ _ e (fun _ z => nomatch z) nb).1 (RxL.move k rs)
  | _, _, .tup nb e rs => .tup (k _ _ e (fun _ z => nomatch z) nb).2 (k _ _ e (fun _ z => nomatch z) nb).1 (RxL.move k rs)
theorem RxL.move (k : ∀ b o, H b = some o → NT o → ¬ B b → H' b = some o ∧ ¬ B' b) : ∀ {ds : List D} {vs : List V}, RxL H B ds vs → RxL H' B' ds vs
  | _, _, .nil => .nil
  | _, _, .cons r rs => .cons (Rx.move k r) (RxL.move k rs)
end
mutual
theorem Rx.rp : ∀ {d : D} {v : V}, Rx H B d v → Rp H B d v
  | _, _, .non => .non
  | _, _, .bl b => .bl b
  | _, _, .int i => .int i
  | _, _, .str x => .str x
  | _, _, .lst nb e rs => .lst nb (.inl e) (RxL.rp rs)
  | _, _, .tup nb e rs => .tup nb e (RxL.rp rs)
theorem RxL.rp : ∀ {ds : List D} {vs : List V}, RxL H B ds vs → RpL H B ds vs
  | _, _, .nil => .nil
  | _, _, .cons r rs => .cons (Rx.rp r) (RxL.rp rs)
end
theorem RxL.length : ∀ {ds : List D} {vs : List V}, RxL H B ds vs → ds.length = vs.length
  | _, _, .nil => rfl
  | _, _, .cons _ rs => by simp [RxL.length rs]
theorem RxL.append : ∀ {ds es : List D} {vs ws : List V}, RxL H B ds vs → RxL H B es ws → RxL H B (ds ++ es) (vs ++ ws)
  | _, _, _, _, .nil, q => q
  | _, _, _, _, .cons r rs, q => .cons r (RxL.append rs q)
theorem RxL.get : ∀ {ds : List D} {vs : List V} {i : Nat} {d : D}, RxL H B ds vs → ds[i]? = some d → ∃ v, vs[i]? = some v ∧ Rx H B d v
  | _, _, _, _, .nil, e => by simp at e
  | _, _, 0, _, .cons r _, e => by simp at e; subst e; exact ⟨_, rfl, r⟩
  | _, _, i + 1, _, .cons _ rs, e => by
    obtain ⟨v, h1, h2⟩ := RxL.get (i := i) rs (by simpa using e)
    exact ⟨v, by simpa using h1, h2⟩
def flatD : D → Bool
  | .none => true
  | .bool _ => true
  | .int _ => true
  | .str _ => true
  | _ => false
theorem Rp.flat {d : D} {v : V} (r : Rp H B d v) (f : flatD d = true) : Rp H' B' d v := by
  cases r with
  | non => exact .non
  | bl b => exact .bl b
  | int i => exact .int i
  | str x => exact .str x
  | lst _ _ _ => cases f
  | tup _ _ _ => cases f
theorem Rp.flatX {d : D} {v : V} (r : Rp H B d v) (f : flatD d = true) : Rx H' B' d v := by
  cases r with
  | non => exact .non
  | bl b => exact .bl b
  | int i => exact .int i
  | str x => exact .str x
  | lst _ _ _ => cases f
  | tup _ _ _ => cases f
theorem RpL.flatX : ∀ {ds : List D} {vs : List V}, RpL H B ds vs → ds.all flatD = true → RxL H' B' ds vs
  | _, _, .nil, _ => .nil
  | _, _, .cons r rs, f => by
    rw [List.all_cons, Bool.and_eq_true] at f
    exact .cons (r.flatX f.1) (RpL.flatX rs f.2)
end

/-! ### slots -/
abbrev DKV := List (List Key × D)
/-- t: its keys are tuples; l: it is being walked -/
structure DT where
  t : Bool
  l : Bool
inductive Sl where
  | un | va (d : D) | ow (ds : List D) | vn (d : D) | dc (t : DT) (kvs : DKV)
abbrev En := List Sl
/-- a key, by data -/
def kD : Key → D
  | .inl n => .int n
  | .inr x => .str x
def DObj (l : Bool) (H : Hp) (a : Addr) (u : HO) : Prop := match l with
  | true => ∃ od, H a = some (.frz od u)
  | false => H a = some u
theorem DObj.rd {l : Bool} {H : Hp} {a : Addr} {u : HO} (h : DObj l H a u) : Rd H a u := by
  cases l with
  | true => exact .inr h
  | false => exact .inl h
theorem DObj.move {l : Bool} {H H' : Hp} {a : Addr} {u : HO} (nt : NT u) (h : DObj l H a u) (ha : ∀ o, H a = some o → NT o → H' a = some o) : DObj l H' a u := by
  cases l with
  | true =>
    obtain ⟨od, e⟩ := h
    exact ⟨od, ha _ e fun _ z => nomatch z⟩
  | false => exact ha _ h nt
/-- the dict at a: its keys, and its values by data -/
def DcAt (H : Hp) (B : Addr → Prop) (a : Addr) (t : DT) (kvs : DKV) : Prop := match t.t with
  | false => ∃ ks : List (Key × V), DObj t.l H a (.dK ks) ∧ Paired (fun (p : List Key × D) (q : Key × V) => p.1 = [q.1] ∧ Rp H B p.2 q.2) kvs ks
  | true => ∃ ks : List (List Key × V), DObj t.l H a (.dT ks) ∧ Paired (fun (p : List Key × D) (q : List Key × V) => p.1 = q.1 ∧ Rp H B p.2 q.2) kvs ks
def isOwn : Sl → Bool
  | .ow _ => true
  | .dc _ _ => true
  | _ => false
/-- the object at a holds what the slot tells -/
def OwnAt (H : Hp) (B : Addr → Prop) (a : Addr) : Sl → Prop
  | .ow ds => ∃ xs, H a = some (.lst xs) ∧ RpL H B ds xs
  | .dc t kvs => DcAt H B a t kvs
  | _ => False
theorem DcAt.move {H H' : Hp} {B B' : Addr → Prop} {a : Addr} {t : DT} {kvs : DKV} (d : DcAt H B a t kvs) (ha : ∀ o, H a = some o → NT o → H' a = some o) (k : ∀ b o, H b = some o → NT o → ¬ B b → H' b = some o ∧ ¬ B' b) : DcAt H' B' a t kvs := by
  obtain ⟨t, l⟩ := t
  cases t with
  | false =>
    obtain ⟨ks, h1, h2⟩ := d
    exact ⟨ks, h1.move (fun _ z => nomatch z) ha, Paired.mapP h2 fun p q z => ⟨z.1, z.2.move k⟩⟩
  | true =>
    obtain ⟨ks, h1, h2⟩ := d
    exact ⟨ks, h1.move (fun _ z => nomatch z) ha, Paired.mapP h2 fun p q z => ⟨z.1, z.2.move k⟩⟩
theorem OwnAt.move {H H' : Hp} {B B' : Addr → Prop} {a : Addr} {s : Sl} (d : OwnAt H B a s) (ha : ∀ o, H a = some o → NT o → H' a = some o) (k : ∀ b o, H b = some o → NT o → ¬ B b → H' b = some o ∧ ¬ B' b) : OwnAt H' B' a s := by
  cases s with
  | ow ds =>
    obtain ⟨xs, h1, h2⟩ := d
    exact ⟨xs, ha _ h1 (fun _ z => nomatch z), h2.move k⟩
  | dc t kvs => exact DcAt.move d ha k
  | un => exact d
  | va _ => exact d
  | vn _ => exact d
/-- an own object is no table -/
theorem OwnAt.obj {H : Hp} {B : Addr → Prop} {a : Addr} {s : Sl} (d : OwnAt H B a s) : ∃ o, H a = some o ∧ NT o ∧ (∀ φ, o ≠ .ext φ) ∧ (∀ xs, o ≠ .tup xs) := by
  have key : ∀ (l : Bool) (u : HO), DObj l H a u → NT u → (∀ φ, u ≠ .ext φ) → (∀ xs, u ≠ .tup xs) → ∃ o, H a = some o ∧ NT o ∧ (∀ φ, o ≠ .ext φ) ∧ (∀ xs, o ≠ .tup xs) := fun l u h n x y => by
    cases l with
    | true =>
      obtain ⟨od, e⟩ := h
      exact ⟨_, e, (fun _ z => nomatch z), (fun _ z => nomatch z), fun _ z => nomatch z⟩
    | false => exact ⟨_, h, n, x, y⟩
  cases s with
  | ow ds =>
    obtain ⟨xs, h1, h2⟩ := d
    exact ⟨_, h1, (fun _ z => nomatch z), (fun _ z => nomatch z), fun _ z => nomatch z⟩
  | dc t kvs =>
    obtain ⟨t, l⟩ := t
    cases t with
    | false =>
      obtain ⟨ks, h1, h2⟩ := d
      exact key l _ h1 (fun _ z => nomatch z) (fun _ z => nomatch z) fun _ z => nomatch z
    | true =>
      obtain ⟨ks, h1, h2⟩ := d
      exact key l _ h1 (fun _ z => nomatch z) (fun _ z => nomatch z) fun _ z => nomatch z
  | un => exact d.elim
  | va _ => exact d.elim
  | vn _ => exact d.elim
theorem OwnAt.nt {H : Hp} {B : Addr → Prop} {a : Addr} {s : Sl} (d : OwnAt H B a s) : nt H a := by
  obtain ⟨o, h, _, _, n⟩ := d.obj
  exact ⟨o, h, n⟩
theorem OwnAt.ne {H : Hp} {B : Addr → Prop} {a : Addr} {s : Sl} (d : OwnAt H B a s) : H a ≠ none := by
  obtain ⟨o, h, _⟩ := d.obj
  rw [h]
  exact fun z => nomatch z
/-! ### slots -/
/-- what is blocked for the whole run, and what stood at its start -/
structure Bk where
  bl : Addr → Prop
  od : Addr → Prop
def blk (Bf : Bk) (ow : Nat → Option Addr) (b : Addr) : Prop := Bf.bl b ∨ ∃ i, ow i = some b

/-- .. and what stood at the start: a value that was made since -/
def blkN (Bf : Bk) (ow : Nat → Option Addr) (b : Addr) : Prop := blk Bf ow b ∨ Bf.od b
def insB (Bf : Bk) (p : Addr) : Bk := ⟨fun b => Bf.bl b ∨ b = p, Bf.od⟩

structure Ok (P : Pl) (Bf : Bk) (ow : Nat → Option Addr) (en : En) (σ : L2.St) (H : Hp) : Prop where
  hlen : σ.length = en.length
  hva : ∀ (i : Nat) (d : D), en[i]? = some (Sl.va d) → ∃ v, σ[i]? = some (some v) ∧ Rp H (blk Bf ow) d v
  hvn : ∀ (i : Nat) (d : D), en[i]? = some (Sl.vn d) → ∃ v, σ[i]? = some (some v) ∧ Rx H (blkN Bf ow) d v
  hob : ∀ (i : Nat) (s : Sl), en[i]? = some s → isOwn s = true → ∃ a, ow i = some a ∧ σ[i]? = some (some (.ref a)) ∧ OwnAt H (blk Bf ow) a s
  hdom : ∀ (i : Nat) (a : Addr), ow i = some a → ∃ s, en[i]? = some s ∧ isOwn s = true
  hinj : ∀ i j a, ow i = some a → ow j = some a → i = j
  hbf : ∀ b, Bf.bl b → nt H b
  hod : ∀ b, Bf.od b → H b ≠ none
  hloc : ∀ i a, ow i = some a → i ∉ P → ¬ Bf.bl a ∧ ¬ Bf.od a
  htab : LamX.Tabs P.tb H
theorem Ok.hown {P : Pl} {Bf : Bk} {ow : Nat → Option Addr} {en : En} {σ : L2.St} {H : Hp} (k : Ok P Bf ow en σ H) (i : Nat) (ds : List D) (e : en[i]? = some (Sl.ow ds)) : ∃ a xs, ow i = some a ∧ σ[i]? = some (some (.ref a)) ∧ H a = some (.lst xs) ∧ RpL H (blk Bf ow) ds xs := by
  obtain ⟨a, h1, h2, xs, h3, h4⟩ := k.hob i _ e rfl
  exact ⟨a, xs, h1, h2, h3, h4⟩
theorem Ok.hdc {P : Pl} {Bf : Bk} {ow : Nat → Option Addr} {en : En} {σ : L2.St} {H : Hp} (k : Ok P Bf ow en σ H) (i : Nat) (t : DT) (kvs : DKV) (e : en[i]? = some (Sl.dc t kvs)) : ∃ a, ow i = some a ∧ σ[i]? = some (some (.ref a)) ∧ DcAt H (blk Bf ow) a t kvs := k.hob i _ e rfl
/-- where a slot's own object lies -/
theorem Ok.hat {P : Pl} {Bf : Bk} {ow : Nat → Option Addr} {en : En} {σ : L2.St} {H : Hp} (k : Ok P Bf ow en σ H) {i : Nat} {a : Addr} (e : ow i = some a) : ∃ s, en[i]? = some s ∧ isOwn s = true ∧ σ[i]? = some (some (.ref a)) ∧ OwnAt H (blk Bf ow) a s := by
  obtain ⟨s, h1, h2⟩ := k.hdom i a e
  obtain ⟨a', h3, h4, h5⟩ := k.hob i s h1 h2
  rw [e] at h3
  cases h3
  exact ⟨s, h1, h2, h4, h5⟩

structure Rel (P : Pl) (H : Hp) (ow : Nat → Option Addr) (H' : Hp) (ow' : Nat → Option Addr) : Prop where
  hkeep : ∀ b o, H b = some o → NT o → (∀ i, ow i ≠ some b) → H' b = some o ∧ (∀ i, ow' i ≠ some b)
  hsome : ∀ b, H b ≠ none → H' b ≠ none
  hpin : ∀ i, i ∈ P → ow' i = ow i
  hsub : ∀ (i : Nat) (a : Addr), ow' i = some a → ow i = some a
  hfrz : ∀ b o u, H b = some (.frz o u) → H' b = some (.frz o u)
  hnt : ∀ b, nt H b → nt H' b

section
variable {P : Pl} {Bf : Bk} {ow ow' ow1 : Nat → Option Addr} {en en' : En} {σ σ' : L2.St} {H H' H1 : Hp}
theorem Rel.refl : Rel P H ow H ow := ⟨fun _ _ e t n => ⟨e, n⟩, fun _ e => e, fun _ _ => rfl, fun _ _ e => e, fun _ _ _ e => e, fun _ e => e⟩
theorem Rel.trans (a : Rel P H ow H1 ow1) (b : Rel P H1 ow1 H' ow') : Rel P H ow H' ow' :=
  ⟨fun x o e t n => b.hkeep x o (a.hkeep x o e t n).1 t (a.hkeep x o e t n).2, fun x e => b.hsome x (a.hsome x e), fun i hi => (b.hpin i hi).trans (a.hpin i hi), fun i x e => a.hsub i x (b.hsub i x e), fun x o u e => b.hfrz x o u (a.hfrz x o u e), fun x e => b.hnt x (a.hnt x e)⟩
theorem Rel.mv (a : Rel P H ow H' ow') : ∀ b o, H b = some o → NT o → ¬ blk Bf ow b → H' b = some o ∧ ¬ blk Bf ow' b := fun b o e t n => by
  have h := a.hkeep b o e t fun i z => n (.inr ⟨i, z⟩)
  exact ⟨h.1, fun z => z.elim (fun z => n (.inl z)) fun ⟨i, z⟩ => h.2 i z⟩
theorem Rel.mvN (a : Rel P H ow H' ow') : ∀ b o, H b = some o → NT o → ¬ blkN Bf ow b → H' b = some o ∧ ¬ blkN Bf ow' b := fun b o e t n => by
  have h := a.mv (Bf := Bf) b o e t fun z => n (.inl z)
  exact ⟨h.1, fun z => z.elim h.2 fun z => n (.inr z)⟩
theorem Rel.rp (a : Rel P H ow H' ow') {d : D} {v : V} (r : Rp H (blk Bf ow) d v) : Rp H' (blk Bf ow') d v := r.move a.mv
theorem Rel.rpl (a : Rel P H ow H' ow') {d : List D} {v : List V} (r : RpL H (blk Bf ow) d v) : RpL H' (blk Bf ow') d v := r.move a.mv
/-- new things alone -/
def Ext (H H' : Hp) : Prop := ∀ b o, H b = some o → H' b = some o
theorem Ext.refl : Ext H H := fun _ _ e => e
theorem Ext.trans (a : Ext H H1) (b : Ext H1 H') : Ext H H' := fun x o e => b x o (a x o e)
theorem Ext.upd {p : Addr} {o : HO} (h : H p = none) : Ext H (upd H p o) := fun b x e => by
  rw [upd_ne (ne_of_none e h)]
  exact e
theorem Ext.some (a : Ext H H') : ∀ b, H b ≠ none → H' b ≠ none := fun b h => by
  cases e : H b with
  | none => exact absurd e h
  | some o => rw [a b o e]; exact fun z => nomatch z
theorem Ext.rel (a : Ext H H') : Rel P H ow H' ow := ⟨fun b o e t n => ⟨a b o e, n⟩, a.some, fun _ _ => rfl, fun _ _ e => e, fun b o u e => a b _ e, fun b ⟨o, e, n⟩ => ⟨o, a b o e, n⟩⟩
/-- .. but for the tables, which stay good -/
structure ExtT (T : List (Addr × Str)) (H H' : Hp) : Prop where
  keep : ∀ b o, H b = some o → NT o → H' b = some o
  dom : ∀ b, H b ≠ none → H' b ≠ none
  tab : LamX.Tabs T H → LamX.Tabs T H'
  ntk : ∀ b, nt H b → nt H' b
theorem Ext.t {T : List (Addr × Str)} (a : Ext H H') : ExtT T H H' := ⟨fun b o e _ => a b o e, a.some, fun t => t.ext a, fun b ⟨o, e, n⟩ => ⟨o, a b o e, n⟩⟩
theorem ExtT.refl {T : List (Addr × Str)} : ExtT T H H := Ext.refl.t
theorem ExtT.trans {T : List (Addr × Str)} (a : ExtT T H H1) (b : ExtT T H1 H') : ExtT T H H' := ⟨fun x o e t => b.keep x o (a.keep x o e t) t, fun x e => b.dom x (a.dom x e), fun t => b.tab (a.tab t), fun x e => b.ntk x (a.ntk x e)⟩
theorem ExtT.rel {T : List (Addr × Str)} (a : ExtT T H H') : Rel P H ow H' ow := ⟨fun b o e t n => ⟨a.keep b o e t, n⟩, a.dom, fun _ _ => rfl, fun _ _ e => e, (fun b o u e => a.keep b _ e (fun _ z => nomatch z)), a.ntk⟩
theorem ExtT.rp {T : List (Addr × Str)} {B : Addr → Prop} (a : ExtT T H H') {d : D} {v : V} (r : Rp H B d v) : Rp H' B d v := r.move fun b o e t n => ⟨a.keep b o e t, n⟩
theorem ExtT.rpl {T : List (Addr × Str)} {B : Addr → Prop} (a : ExtT T H H') {d : List D} {v : List V} (r : RpL H B d v) : RpL H' B d v := r.move fun b o e t n => ⟨a.keep b o e t, n⟩
theorem Ext.rp {B : Addr → Prop} (a : Ext H H') {d : D} {v : V} (r : Rp H B d v) : Rp H' B d v := r.move fun b o e t n => ⟨a b o e, n⟩
theorem Ext.rpl {B : Addr → Prop} (a : Ext H H') {d : List D} {v : List V} (r : RpL H B d v) : RpL H' B d v := r.move fun b o e t n => ⟨a b o e, n⟩
theorem Ok.extT (k : Ok P Bf ow en σ H) (a : ExtT P.tb H H') : Ok P Bf ow en σ H' where
  hlen := k.hlen
  hva := fun i d e => let ⟨v, h1, h2⟩ := k.hva i d e; ⟨v, h1, a.rp h2⟩
  hvn := fun i d e => let ⟨v, h1, h2⟩ := k.hvn i d e; ⟨v, h1, h2.move fun b o e t n => ⟨a.keep b o e t, n⟩⟩
  hob := fun i s e f => let ⟨x, h1, h2, h3⟩ := k.hob i s e f; ⟨x, h1, h2, h3.move (fun o e t => a.keep _ o e t) fun b o e t n => ⟨a.keep b o e t, n⟩⟩
  hdom := k.hdom
  hinj := k.hinj
  hbf := fun b h => a.ntk b (k.hbf b h)
  hod := fun b h => a.dom b (k.hod b h)
  hloc := k.hloc
  htab := a.tab k.htab
theorem Ok.ext (k : Ok P Bf ow en σ H) (a : Ext H H') : Ok P Bf ow en σ H' := k.extT a.t
theorem Ok.nb (k : Ok P Bf ow en σ H) {p : Addr} (h : H p = none) : ¬ blk Bf ow p := fun z => by
  rcases z with z | ⟨i, z⟩
  · exact (k.hbf p z).ne h
  · obtain ⟨_, _, _, _, h3⟩ := k.hat z
    exact h3.ne h
end

/-! ### expressions -/
abbrev FE := En → Option (D × En)
def tv (P : Pl) (f : FE) : TE := fun σ H Q => ∃ Bf ow en, Ok P Bf ow en σ H ∧ ∃ d en', f en = some (d, en') ∧
  ∀ v ow' H', Ok P Bf ow' en' σ H' → Rel P H ow H' ow' → Rp H' (blk Bf ow') d v → Q v H'
def VE (X : Cx) (P : Pl) (e : Expr) (f : FE) : Prop := PE X e (tv P f)

theorem PE.weak {X : Cx} {e : Expr} {t t' : TE} (h : PE X e t) (w : ∀ σ H Q, t' σ H Q → t σ H Q) : PE X e t' :=
  ⟨fun pins s σ H Q I q => h.run pins s σ H Q I (w σ H Q q)⟩

section
variable {X : Cx} {P : Pl} {a b e : Expr} {fa fb : FE} {pos : Pos}

/-- a slot is let go: its list, if it was one's own, is a value from here on -/
def dropOw (ow : Nat → Option Addr) (i : Nat) : Nat → Option Addr := fun j => if j = i then none else ow j
theorem dropOw_sub {ow : Nat → Option Addr} {i : Nat} : ∀ (j : Nat) (a : Addr), dropOw ow i j = some a → ow j = some a := fun j a z => by
  unfold dropOw at z
  split at z
  · cases z
  · exact z
theorem dropOw_blk {Bf : Bk} {ow : Nat → Option Addr} {i : Nat} {b : Addr} (z : blk Bf (dropOw ow i) b) : blk Bf ow b := by
  rcases z with z | ⟨j, z⟩
  · exact .inl z
  · exact .inr ⟨j, dropOw_sub j b z⟩
theorem dropOw_rel {P : Pl} {ow : Nat → Option Addr} {H : Hp} {i : Nat} (hi : i ∉ P) : Rel P H ow H (dropOw ow i) :=
  ⟨fun b o e t n => ⟨e, fun j z => n j (dropOw_sub j b z)⟩, fun _ e => e, fun j hj => by
    unfold dropOw
    rw [if_neg fun z => hi (by rw [← z]; exact hj)], dropOw_sub, fun _ _ _ e => e, fun _ e => e⟩
theorem Ok.set {P : Pl} {Bf : Bk} {ow : Nat → Option Addr} {en : En} {σ : L2.St} {H : Hp} (k : Ok P Bf ow en σ H) {i : Nat} {d : D} {v : V} (hi : i ∉ P) (p : Rp H (blk Bf (dropOw ow i)) d v) : Ok P Bf (dropOw ow i) (en.set i (.va d)) (σ.set i (some v)) H := by
  have mv : ∀ b o, H b = some o → NT o → ¬ blk Bf ow b → H b = some o ∧ ¬ blk Bf (dropOw ow i) b := fun b o e t n => ⟨e, fun z => n (dropOw_blk z)⟩
  have mvN : ∀ b o, H b = some o → NT o → ¬ blkN Bf ow b → H b = some o ∧ ¬ blkN Bf (dropOw ow i) b := fun b o e t n => ⟨e, fun z => n (z.elim (fun z => .inl (dropOw_blk z)) .inr)⟩
  refine ⟨by simp [k.hlen], fun j d' e => ?_, fun j d' e => ?_, fun j ds e f => ?_, fun j a e => ?_, fun j l a e1 e2 => k.hinj j l a (dropOw_sub _ _ e1) (dropOw_sub _ _ e2), k.hbf, k.hod, fun j a e hj => k.hloc j a (dropOw_sub _ _ e) hj, k.htab⟩
  · by_cases hj : j = i
    · subst hj
      by_cases hl : j < en.length
      · rw [List.getElem?_set_self hl] at e
        cases e
        exact ⟨v, by rw [List.getElem?_set_self (by rw [k.hlen]; exact hl)], p⟩
      · rw [List.getElem?_eq_none (by simpa using hl)] at e
        cases e
    · rw [List.getElem?_set_ne (Ne.symm hj)] at e ⊢
      obtain ⟨w, h1, h2⟩ := k.hva j d' e
      exact ⟨w, h1, h2.move mv⟩
  · by_cases hj : j = i
    · subst hj
      by_cases hl : j < en.length
      · rw [List.getElem?_set_self hl] at e
        cases e
      · rw [List.getElem?_eq_none (by simpa using hl)] at e
        cases e
    · rw [List.getElem?_set_ne (Ne.symm hj)] at e ⊢
      obtain ⟨w, h1, h2⟩ := k.hvn j d' e
      exact ⟨w, h1, h2.move mvN⟩
  · by_cases hj : j = i
    · subst hj
      by_cases hl : j < en.length
      · rw [List.getElem?_set_self hl] at e
        cases e
        cases f
      · rw [List.getElem?_eq_none (by simpa using hl)] at e
        cases e
    · rw [List.getElem?_set_ne (Ne.symm hj)] at e ⊢
      obtain ⟨a, h1, h2, h3⟩ := k.hob j ds e f
      exact ⟨a, by unfold dropOw; rw [if_neg hj]; exact h1, h2, h3.move (fun o e _ => e) mv⟩
  · have e' := dropOw_sub _ _ e
    unfold dropOw at e
    split at e
    · cases e
    · rename_i hj
      rw [List.getElem?_set_ne (Ne.symm hj)]
      exact k.hdom j a e'
theorem Ok.setN {P : Pl} {Bf : Bk} {ow : Nat → Option Addr} {en : En} {σ : L2.St} {H : Hp} (k : Ok P Bf ow en σ H) {i : Nat} {d : D} {v : V} (hi : i ∉ P) (p : Rx H (blkN Bf (dropOw ow i)) d v) : Ok P Bf (dropOw ow i) (en.set i (.vn d)) (σ.set i (some v)) H := by
  have mv : ∀ b o, H b = some o → NT o → ¬ blk Bf ow b → H b = some o ∧ ¬ blk Bf (dropOw ow i) b := fun b o e t n => ⟨e, fun z => n (dropOw_blk z)⟩
  have mvN : ∀ b o, H b = some o → NT o → ¬ blkN Bf ow b → H b = some o ∧ ¬ blkN Bf (dropOw ow i) b := fun b o e t n => ⟨e, fun z => n (z.elim (fun z => .inl (dropOw_blk z)) .inr)⟩
  refine ⟨by simp [k.hlen], fun j d' e => ?_, fun j d' e => ?_, fun j ds e f => ?_, fun j a e => ?_, fun j l a e1 e2 => k.hinj j l a (dropOw_sub _ _ e1) (dropOw_sub _ _ e2), k.hbf, k.hod, fun j a e hj => k.hloc j a (dropOw_sub _ _ e) hj, k.htab⟩
  · by_cases hj : j = i
    · subst hj
      by_cases hl : j < en.length
      · rw [List.getElem?_set_self hl] at e
        cases e
      · rw [List.getElem?_eq_none (by simpa using hl)] at e
        cases e
    · rw [List.getElem?_set_ne (Ne.symm hj)] at e ⊢
      obtain ⟨w, h1, h2⟩ := k.hva j d' e
      exact ⟨w, h1, h2.move mv⟩
  · by_cases hj : j = i
    · subst hj
      by_cases hl : j < en.length
      · rw [List.getElem?_set_self hl] at e
        cases e
        exact ⟨v, by rw [List.getElem?_set_self (by rw [k.hlen]; exact hl)], p⟩
      · rw [List.getElem?_eq_none (by simpa using hl)] at e
        cases e
    · rw [List.getElem?_set_ne (Ne.symm hj)] at e ⊢
      obtain ⟨w, h1, h2⟩ := k.hvn j d' e
      exact ⟨w, h1, h2.move mvN⟩
  · by_cases hj : j = i
    · subst hj
      by_cases hl : j < en.length
      · rw [List.getElem?_set_self hl] at e
        cases e
        cases f
      · rw [List.getElem?_eq_none (by simpa using hl)] at e
        cases e
    · rw [List.getElem?_set_ne (Ne.symm hj)] at e ⊢
      obtain ⟨a, h1, h2, h3⟩ := k.hob j ds e f
      exact ⟨a, by unfold dropOw; rw [if_neg hj]; exact h1, h2, h3.move (fun o e _ => e) mv⟩
  · have e' := dropOw_sub _ _ e
    unfold dropOw at e
    split at e
    · cases e
    · rename_i hj
      rw [List.getElem?_set_ne (Ne.symm hj)]
      exact k.hdom j a e'
/-- a list of one's own becomes a value -/
theorem Ok.freeze {P : Pl} {Bf : Bk} {ow : Nat → Option Addr} {en : En} {σ : L2.St} {H : Hp} (k : Ok P Bf ow en σ H) {i : Nat} {ds : List D} (hi : i ∉ P) (e : en[i]? = some (.ow ds)) :
    ∃ v, σ[i]? = some (some v) ∧ Ok P Bf (dropOw ow i) (en.set i (.va (.list ds))) σ H ∧ Rp H (blk Bf (dropOw ow i)) (.list ds) v := by
  obtain ⟨a, xs, h1, h2, h3, h4⟩ := k.hown i ds e
  have p : Rp H (blk Bf (dropOw ow i)) (.list ds) (.ref a) := by
    refine .lst (fun z => ?_) (.inl h3) (h4.move fun b o e t n => ⟨e, fun z => n (dropOw_blk z)⟩)
    rcases z with z | ⟨j, z⟩
    · exact (k.hloc i a h1 hi).1 z
    · have := k.hinj j i a (dropOw_sub _ _ z) h1
      subst this
      unfold dropOw at z
      rw [if_pos rfl] at z
      cases z
  refine ⟨_, h2, ?_, p⟩
  have k2 := k.set hi p
  have es : σ.set i (some (.ref a)) = σ := by
    apply List.ext_getElem?
    intro j
    by_cases hj : j = i
    · subst hj
      rw [List.getElem?_set_self (List.getElem?_eq_some_iff.mp h2).1, h2]
    · rw [List.getElem?_set_ne (Ne.symm hj)]
  rw [es] at k2
  exact k2
def eVar (P : List Nat) (i : Nat) : FE := fun en => match en[i]? with
  | some (.va d) => some (d, en)
  | some (.ow ds) => if i ∈ P then none else some (.list ds, en.set i (.va (.list ds)))
  | some (.vn d) => some (d, en)
  | _ => none
theorem ve_var {i : Nat} {x : Str} (hN : X.N[i]? = some x) (hv : Vis X.env.scope x := by first | exact .inl rfl | exact .inr (.inl rfl) | exact .inr (.inr rfl)) (hd : (x == ("__debug__" : Str)) = false := by decide) (hcd : (x == ("__classdict__" : Str)) = false := by decide) : VE X P (.Name x pos) (eVar P.ps i) := by
  refine PE.weak (pe_var hN hv hd hcd) fun σ H Q h => ?_
  obtain ⟨Bf, ow, en, k, d, en', hf, q⟩ := h
  unfold eVar at hf
  split at hf
  · rename_i d' he
    cases hf
    obtain ⟨v, h1, h2⟩ := k.hva i d he
    exact ⟨v, h1, q v ow H k .refl h2⟩
  · rename_i ds he
    split at hf
    · cases hf
    · rename_i hi
      cases hf
      obtain ⟨v, h1, k2, p⟩ := k.freeze hi he
      exact ⟨v, h1, q v _ H k2 (dropOw_rel hi) p⟩
  · rename_i d' he
    cases hf
    obtain ⟨v, h1, h2⟩ := k.hvn i d he
    exact ⟨v, h1, q v ow H k .refl (h2.rp.move fun b o e t n => ⟨e, fun z => n (.inl z)⟩)⟩
  · cases hf
def eC (d : D) : FE := fun en => some (d, en)
theorem ve_of {v : V} {d : D} (h : PE X e (tC v)) (r : ∀ H B, Rp H B d v) : VE X P e (eC d) := by
  refine PE.weak h fun σ H Q h => ?_
  obtain ⟨Bf, ow, en, k, d, en', hf, q⟩ := h
  cases hf
  exact q v ow H k .refl (r _ _)
theorem ve_int {i j pos} : VE X P (.Constant (.int i) j pos) (eC (.int i)) := ve_of pe_int fun _ _ => .int i
theorem ve_bl {i j pos} : VE X P (.Constant (.bool i) j pos) (eC (.bool i)) := ve_of pe_bl fun _ _ => .bl i
theorem ve_non {j pos} : VE X P (.Constant .none j pos) (eC .none) := ve_of pe_non fun _ _ => .non
theorem ve_str {x j pos} : VE X P (.Constant (.str x) j pos) (eC (.str x)) := ve_of pe_str fun _ _ => .str x

/-- a pure operator by data -/
def OpV (r : R2) (g : D → D → Option D) : Prop := ∀ (H : Hp) (B : Addr → Prop) (d1 d2 d : D) (v1 v2 : V) (Q : VK), g d1 d2 = some d → Rp H B d1 v1 → Rp H B d2 v2 → (∀ p, H p = none → ¬ B p) →
  (∀ v H', Ext H H' → Rp H' B d v → Q v H') → r v1 v2 H Q
def eOp (g : D → D → Option D) (fa fb : FE) : FE := fun en => match fa en with
  | some (x, en1) => match fb en1 with
    | some (y, en2) => match g x y with
      | some z => some (z, en2)
      | none => none
    | none => none
  | none => none
theorem tv_op {r : R2} {g : D → D → Option D} (hg : OpV r g) (σ : L2.St) (H : Hp) (Q : VK) (h : tv P (eOp g fa fb) σ H Q) : tOp r (tv P fa) (tv P fb) σ H Q := by
  obtain ⟨Bf, ow, en, k, d, en', hf, q⟩ := h
  unfold eOp at hf
  split at hf
  · rename_i x en1 h1
    split at hf
    · rename_i y en2 h2
      split at hf
      · rename_i z h3
        cases hf
        refine ⟨Bf, ow, en, k, x, en1, h1, fun v1 ow1 H1 k1 r1 p1 => ?_⟩
        refine ⟨Bf, ow1, en1, k1, y, _, h2, fun v2 ow2 H2 k2 r2 p2 => ?_⟩
        refine hg H2 (blk Bf ow2) x y d v1 v2 Q h3 (r2.rp p1) p2 (fun p hp => k2.nb hp) fun v H' ex p => ?_
        exact q v ow2 H' (k2.ext ex) ((r1.trans r2).trans ex.rel) p
      · cases hf
    · cases hf
  · cases hf
theorem ve_op {op : Operator} {r : R2} {g : D → D → Option D} (ho : OpR X (binaryOp op) r) (hg : OpV r g) (ha : VE X P a fa) (hb : VE X P b fb) : VE X P (.BinOp a op b pos) (eOp g fa fb) :=
  PE.weak (pe_op ho ha hb) (tv_op hg)
theorem ve_cmp {op : CmpOp} {r : R2} {g : D → D → Option D} (ho : OpR X (compareOp op) r) (hg : OpV r g) (ha : VE X P a fa) (hb : VE X P b fb) (hm : behindInMarks op b = false) : VE X P (.Compare a [op] [b] pos) (eOp g fa fb) :=
  PE.weak (pe_cmpR ho ha hb hm) (tv_op hg)
theorem ve_ix {r : R2} {g : D → D → Option D} (ho : IxR X r) (hg : OpV r g) (ha : VE X P a fa) (hb : VE X P b fb) (hm : PlainIx b) : VE X P (.Subscript a b pos) (eOp g fa fb) :=
  PE.weak (pe_ix ho ha hb hm) (tv_op hg)
end
end VL

namespace VL
open PySem PySem.Spec
open PyProof.Rows L2

section
variable {K : PySem.W.Frag}
/-- two ints -/
def gII (c : Int → Int → Bool) (f : Int → Int → D) : D → D → Option D
  | .int i, .int j => if c i j then some (f i j) else none
  | _, _ => none
theorem ov_ii {C : Int → Int → Prop} {c : Int → Int → Bool} {gv : Int → Int → V} {f : Int → Int → D} (hc : ∀ i j, c i j = true → C i j) (hf : ∀ H B i j, Rp H B (f i j) (gv i j)) : OpV (rI C gv) (gII c f) := by
  intro H B d1 d2 d v1 v2 Q e p1 p2 nb q
  unfold gII at e
  split at e
  · rename_i i j
    split at e
    · rename_i h
      cases e
      cases p1
      cases p2
      exact ⟨i, j, rfl, rfl, hc i j h, q _ H .refl (hf H B i j)⟩
    · cases e
  · cases e
theorem ov_ii0 {gv : Int → Int → V} {f : Int → Int → D} (hf : ∀ H B i j, Rp H B (f i j) (gv i j)) : OpV (rI0 gv) (gII (fun _ _ => true) f) := by
  intro H B d1 d2 d v1 v2 Q e p1 p2 nb q
  unfold gII at e
  split at e
  · rename_i i j
    cases e
    cases p1
    cases p2
    exact ⟨i, j, rfl, rfl, q _ H .refl (hf H B i j)⟩
  · cases e
end

/-! ### + -/
def rCatR : R2 := fun x y H Q => ∃ l b xs zs, x = .ref l ∧ y = .ref b ∧ Rd H l (.lst xs) ∧ Rd H b (.lst zs) ∧ xs.length + zs.length ≤ sizeLine ∧ ∀ p, H p = none → Q (.ref p) (upd H p (.lst (xs ++ zs)))
theorem op_catR {X : Cx} : OpR X (binaryOp .Add) rCatR := by
  intro pins s σ H x y v u Q I rx ry h
  obtain ⟨l, b, xs, zs, rfl, rfl, hH, hB, hz, q⟩ := h
  cases rx
  cases ry
  obtain ⟨z, its, n, r, e⟩ := hH.ok I.hok
  obtain ⟨z2, its2, n2, r2, e2⟩ := hB.ok I.hok
  have hl := r.length
  have hl2 := r2.length
  refine PySem.P.add_list e e2 ?_ (by rw [List.size_toArray, List.size_toArray]; omega)
  have ea : its.toArray ++ its2.toArray = (its ++ its2).toArray := by simp
  rw [ea]
  refine ⟨.ref _, _, I.laid (t' := s.toks) (o := .lst (xs ++ zs)) (fun b ob q => Heap.get?_push_of_some _ q) (Nat.le_refl _) ?_, rfl, q _ (I.hok.fresh (Nat.le_refl _))⟩
  exact ⟨by rw [List.length_append]; exact hz, _, 0, r.append r2, Heap.get?_push_size _ rfl⟩
def rTupAdd : R2 := fun x y H Q => ∃ a b xs ys, x = .ref a ∧ y = .ref b ∧ H a = some (.tup xs) ∧ H b = some (.tup ys) ∧ xs.length + ys.length ≤ sizeLine ∧
  (xs = [] → Q (.ref b) H) ∧ (xs ≠ [] → ys = [] → Q (.ref a) H) ∧ (xs ≠ [] → ys ≠ [] → ∀ p, H p = none → Q (.ref p) (upd H p (.tup (xs ++ ys))))
theorem op_tupAdd {X : Cx} : OpR X (binaryOp .Add) rTupAdd := by
  intro pins s σ H x y v u Q I rx ry h
  obtain ⟨a, b, xs, ys, rfl, rfl, ha, hb, hz, q0, q1, q2⟩ := h
  by_cases hx : xs = []
  · cases rx
    cases ry
    obtain ⟨its, r1, p1, _⟩ := I.tuple (SqT.of ha)
    obtain ⟨its2, r2, p2, _⟩ := I.tuple (SqT.of hb)
    obtain ⟨⟨cls, dd, data, sl⟩, ho, hc, n, hd⟩ := id p1
    obtain ⟨⟨cls2, dd2, data2, sl2⟩, ho2, hc2, n2, hd2⟩ := id p2
    simp only at hc hd hc2 hd2
    subst hc hd hc2 hd2
    subst hx
    cases r1
    exact concat_meets ⟨_, ho, rfl⟩ ⟨_, ho2, rfl⟩ noFill_tuple_add seq_tuple_add PySem.F.slot_tuple_add PySem.F.entry_tuple_add (PySem.F.args_tuple_add_2 _ _)
      (tuple_addW0 a b #[] its2.toArray n n2 dd dd2 sl sl2 (by simp)) ⟨ho, ho2, ⟨.ref b, H, I, rfl, q0 rfl⟩⟩
  · exact op_catT pins s σ H _ _ v u Q I rx ry ⟨a, b, xs, ys, rfl, rfl, SqT.of ha, SqT.of hb, hx, hz, q1 hx, q2 hx⟩
def gAdd : D → D → Option D
  | .int i, .int j => some (.int (i + j))
  | .str x, .str y => if x.length + y.length ≤ sizeLine then some (.str (x ++ y)) else none
  | .list xs, .list ys => if xs.length + ys.length ≤ sizeLine then some (.list (xs ++ ys)) else none
  | .tuple xs, .tuple ys => if xs.length + ys.length ≤ sizeLine then some (.tuple (xs ++ ys)) else none
  | _, _ => none
def rAddAll : R2 := fun x y H Q => (∃ i j, x = .int i ∧ y = .int j ∧ Q (.int (i + j)) H) ∨ (∃ i j, x = .str i ∧ y = .str j ∧ i.length + j.length ≤ sizeLine ∧ Q (.str (i ++ j)) H) ∨ rCatR x y H Q ∨ rTupAdd x y H Q
theorem op_addAll {X : Cx} : OpR X (binaryOp .Add) rAddAll := op_add.or (op_add_str.or (op_catR.or op_tupAdd))
theorem ov_add : OpV rAddAll gAdd := by
  intro H B d1 d2 d v1 v2 Q e p1 p2 nb q
  unfold gAdd at e
  split at e
  · cases e
    cases p1
    cases p2
    exact .inl ⟨_, _, rfl, rfl, q _ H .refl (.int _)⟩
  · split at e
    · cases e
      cases p1
      cases p2
      exact .inr (.inl ⟨_, _, rfl, rfl, by assumption, q _ H .refl (.str _)⟩)
    · cases e
  · split at e
    · rename_i h
      cases e
      cases p1 with
      | lst b1 r1 s1 =>
        cases p2 with
        | lst b2 r2 s2 =>
          refine .inr (.inr (.inl ⟨_, _, _, _, rfl, rfl, r1, r2, by rw [← s1.length, ← s2.length]; exact h, fun p hp => ?_⟩))
          exact q _ _ (.upd hp) (.lst (nb p hp) (.inl upd_same) ((Ext.upd hp).rpl (s1.append s2)))
    · cases e
  · split at e
    · rename_i h
      cases e
      cases p1 with
      | tup b1 r1 s1 =>
        cases p2 with
        | tup b2 r2 s2 =>
          refine .inr (.inr (.inr ⟨_, _, _, _, rfl, rfl, r1, r2, by rw [← s1.length, ← s2.length]; exact h, fun hx => ?_, fun _ hy => ?_, fun _ _ p hp => ?_⟩))
          · subst hx
            cases s1
            exact q _ H .refl (.tup b2 r2 s2)
          · subst hy
            cases s2
            rw [List.append_nil] at q
            exact q _ H .refl (.tup b1 r1 s1)
          · exact q _ _ (.upd hp) (.tup (nb p hp) upd_same ((Ext.upd hp).rpl (s1.append s2)))
    · cases e
  · cases e

/-! ### the other operators on ints -/
theorem ri (i : Int) : ∀ H B, Rp H B (.int i) (.int i) := fun _ _ => .int i
def gSub : D → D → Option D := gII (fun _ _ => true) fun i j => .int (i - j)
theorem ov_sub : OpV (rI0 fun i j => .int (i - j)) gSub := ov_ii0 fun _ _ _ _ => .int _
def gMulI : D → D → Option D := gII (fun i j => decide (i.natAbs.log2 + j.natAbs.log2 < 1000000)) fun i j => .int (i * j)
theorem ov_mulI : OpV (rI CMulW fun i j => .int (i * j)) gMulI := ov_ii (fun i j h => by simpa [CMulW, CDivW, CPow] using h) fun _ _ _ _ => .int _
def gMod : D → D → Option D := gII (fun _ j => decide (0 < j)) fun i j => .int (i % j)
theorem ov_mod : OpV (rI (fun _ j => 0 < j) fun i j => .int (i % j)) gMod := ov_ii (fun i j h => by simpa [CMulW, CDivW, CPow] using h) fun _ _ _ _ => .int _
def gFdiv : D → D → Option D := gII (fun _ j => decide (0 < j ∧ j.natAbs.log2 < 9000)) fun i j => .int (i / j)
theorem ov_fdiv : OpV (rI CDivW fun i j => .int (i / j)) gFdiv := ov_ii (fun i j h => by simpa [CMulW, CDivW, CPow] using h) fun _ _ _ _ => .int _
def gPow : D → D → Option D := gII (fun i j => decide (0 ≤ j ∧ j ≤ 1000000 ∧ i.natAbs < 2 ^ 64)) fun i j => .int (i ^ j.toNat)
theorem ov_pow : OpV (rI CPow fun i j => .int (i ^ j.toNat)) gPow := ov_ii (fun i j h => by simpa [CMulW, CDivW, CPow] using h) fun _ _ _ _ => .int _

/-! ### comparisons -/
def gEq (d e : D) : Option D := if SeqAt.shaped d = true ∧ SeqAt.shaped e = true then some (.bool (PyData.eqv d e)) else none
theorem ov_eq {K : PySem.W.Frag} : OpV (rEqD K) gEq := by
  intro H B d1 d2 d v1 v2 Q e p1 p2 nb q
  unfold gEq at e
  split at e
  · rename_i h
    cases e
    exact ⟨d1, d2, p1.dp, p2.dp, h.1, h.2, q _ H .refl (.bl _)⟩
  · cases e
def gNe (d e : D) : Option D := if SeqAt.shaped d = true ∧ SeqAt.shaped e = true then some (.bool (!PyData.eqv d e)) else none
theorem ov_ne {K : PySem.W.Frag} : OpV (rNeD K) gNe := by
  intro H B d1 d2 d v1 v2 Q e p1 p2 nb q
  unfold gNe at e
  split at e
  · rename_i h
    cases e
    exact ⟨d1, d2, p1.dp, p2.dp, h.1, h.2, q _ H .refl (.bl _)⟩
  · cases e
def intsOf : List D → Option (List Int)
  | [] => some []
  | .int i :: r => (intsOf r).map (i :: ·)
  | _ => none
theorem intsOf_eq : ∀ {ds : List D} {ns : List Int}, intsOf ds = some ns → ds = ns.map .int
  | [], ns, h => by cases h; rfl
  | .int i :: r, ns, h => by
    cases e : intsOf r with
    | none => simp [intsOf, e] at h
    | some ms =>
      simp [intsOf, e] at h
      subst h
      rw [intsOf_eq e]
      rfl
  | .none :: r, _, h => by simp [intsOf] at h
  | .bool _ :: r, _, h => by simp [intsOf] at h
  | .str _ :: r, _, h => by simp [intsOf] at h
  | .list _ :: r, _, h => by simp [intsOf] at h
  | .tuple _ :: r, _, h => by simp [intsOf] at h
  | .dict _ :: r, _, h => by simp [intsOf] at h
theorem intsOf_map : ∀ ns : List Int, intsOf (ns.map .int) = some ns
  | [] => rfl
  | n :: ns => by simp [intsOf, intsOf_map ns]
def gLt : D → D → Option D
  | .int i, .int j => some (.bool (decide (i < j)))
  | .tuple xs, .tuple ys => match intsOf xs, intsOf ys with
    | some ns, some ms => some (.bool (HT.lexLt ns ms))
    | _, _ => none
  | _, _ => none
def rLtAll (K : PySem.W.Frag) : R2 := fun x y H Q => (∃ i j, x = .int i ∧ y = .int j ∧ Q (.bl (decide (i < j))) H) ∨ rLtT K x y H Q
theorem op_ltAll {X : Cx} (hu : X.A.units < cLine) : OpR X (compareOp .Lt) (rLtAll X.K) := op_lt.or (op_ltT hu)
theorem ov_lt {K : PySem.W.Frag} : OpV (rLtAll K) gLt := by
  intro H B d1 d2 d v1 v2 Q e p1 p2 nb q
  unfold gLt at e
  split at e
  · cases e
    cases p1
    cases p2
    exact .inl ⟨_, _, rfl, rfl, q _ H .refl (.bl _)⟩
  · split at e
    · rename_i h1 h2
      cases e
      have e1 := intsOf_eq h1
      have e2 := intsOf_eq h2
      subst e1 e2
      cases p1 with
      | tup b1 r1 s1 =>
        cases p2 with
        | tup b2 r2 s2 =>
          have := s1.ints
          have := s2.ints
          subst_vars
          exact .inr ⟨_, _, _, _, rfl, rfl, SqT.of r1, SqT.of r2, q _ H .refl (.bl _)⟩
    · cases e
  · cases e
def gLe : D → D → Option D := gII (fun _ _ => true) fun i j => .bool (decide (i ≤ j))
theorem ov_le : OpV (rI0 fun i j => .bl (decide (i ≤ j))) gLe := ov_ii0 fun _ _ _ _ => .bl _
def gGt : D → D → Option D := gII (fun _ _ => true) fun i j => .bool (decide (j < i))
theorem ov_gt : OpV (rI0 fun i j => .bl (decide (j < i))) gGt := ov_ii0 fun _ _ _ _ => .bl _
def gGe : D → D → Option D := gII (fun _ _ => true) fun i j => .bool (decide (j ≤ i))
theorem ov_ge : OpV (rI0 fun i j => .bl (decide (j ≤ i))) gGe := ov_ii0 fun _ _ _ _ => .bl _
def isNone : D → Bool
  | .none => true
  | _ => false
def gIs : D → D → Option D
  | d, .none => some (.bool (isNone d))
  | _, _ => none
def gIsNot : D → D → Option D
  | d, .none => some (.bool (!isNone d))
  | _, _ => none
theorem Rp.none_iff {H : Hp} {B : Addr → Prop} {d : D} {v : V} (r : Rp H B d v) : isNone d = decide (v = .non) := by
  cases r <;> rfl
theorem ov_is : OpV (fun x y H Q => y = .non ∧ Q (.bl (decide (x = .non))) H) gIs := by
  intro H B d1 d2 d v1 v2 Q e p1 p2 nb q
  unfold gIs at e
  split at e
  · cases e
    cases p2
    refine ⟨rfl, q _ H .refl ?_⟩
    rw [p1.none_iff]
    exact .bl _
  · cases e
theorem ov_isnot : OpV (fun x y H Q => y = .non ∧ Q (.bl (!decide (x = .non))) H) gIsNot := by
  intro H B d1 d2 d v1 v2 Q e p1 p2 nb q
  unfold gIsNot at e
  split at e
  · cases e
    cases p2
    refine ⟨rfl, q _ H .refl ?_⟩
    rw [p1.none_iff]
    exact .bl _
  · cases e

/-! ### x[i] -/
def gIx : D → D → Option D
  | .list xs, .int i => atI xs i
  | .tuple xs, .int i => atI xs i
  | .str z, .int i => if z.length ≤ sizeLine then (atI z.cps.toList i).map fun c => .str ⟨#[c]⟩ else none
  | _, _ => none
theorem RpL.atI {H : Hp} {B : Addr → Prop} {ds : List D} {vs : List V} {i : Int} {d : D} (r : RpL H B ds vs) (e : L2.atI ds i = some d) : ∃ v, L2.atI vs i = some v ∧ Rp H B d v := by
  unfold L2.atI at e ⊢
  rw [← r.length]
  cases h : ixN ds.length i with
  | none => rw [h] at e; cases e
  | some j =>
    rw [h] at e
    exact r.get e
theorem ov_ix {K : PySem.W.Frag} : OpV (rIx K) gIx := by
  intro H B d1 d2 d v1 v2 Q e p1 p2 nb q
  unfold gIx at e
  split at e
  · cases p2
    cases p1 with
    | lst b1 r1 s1 =>
      obtain ⟨v, h1, h2⟩ := s1.atI e
      exact .inl ⟨_, _, _, v, rfl, rfl, .inl r1, h1, q _ H .refl h2⟩
  · cases p2
    cases p1 with
    | tup b1 r1 s1 =>
      obtain ⟨v, h1, h2⟩ := s1.atI e
      exact .inr (.inl ⟨_, _, _, v, rfl, rfl, SqT.of r1, h1, q _ H .refl h2⟩)
  · rename_i z i
    split at e
    · rename_i hz
      cases p2
      cases p1
      cases h : atI z.cps.toList i with
      | none => rw [h] at e; cases e
      | some c =>
        rw [h] at e
        cases e
        exact .inr (.inr ⟨z, i, c, rfl, rfl, hz, h, q _ H .refl (.str _)⟩)
    · cases e
  · cases e
end VL

namespace VL
open PySem PySem.Spec
open PyProof.Rows L2

/-! ### tests -/
abbrev FT := En → Option (Bool × En)
def tvT (P : Pl) (f : FT) : TT := fun σ H Q => ∃ Bf ow en, Ok P Bf ow en σ H ∧ ∃ b en', f en = some (b, en') ∧
  ∀ ow' H', Ok P Bf ow' en' σ H' → Rel P H ow H' ow' → Q b H'
def VT (X : Cx) (P : Pl) (e : Expr) (f : FT) : Prop := PT X e (tvT P f)
def VW (X : Cx) (P : Pl) (e : Expr) (f : FT) : Prop := PW X e (tvT P f)
theorem PT.weak {X : Cx} {e : Expr} {t t' : TT} (h : PT X e t) (w : ∀ σ H Q, t' σ H Q → t σ H Q) : PT X e t' :=
  ⟨fun pins s σ H Q I q => h.run pins s σ H Q I (w σ H Q q)⟩
theorem PW.weak {X : Cx} {e : Expr} {t t' : TT} (h : PW X e t) (w : ∀ σ H Q, t' σ H Q → t σ H Q) : PW X e t' :=
  ⟨fun wh pins s σ H Q I q => h.run wh pins s σ H Q I (w σ H Q q)⟩

section
variable {X : Cx} {P : Pl} {a b c e : Expr} {rest : List Expr} {fa fb fc : FE} {ta tb : FT} {pos : Pos}
def truD : D → Option Bool
  | .none => some false
  | .bool b => some b
  | .int i => some (i != 0)
  | .str y => if y.length ≤ sizeLine then some ((y.length : Int) != 0) else none
  | .list xs => some (!xs.isEmpty)
  | .tuple xs => some (!xs.isEmpty)
  | .dict _ => none
def fTru (f : FE) : FT := fun en => match f en with
  | some (d, en1) => match truD d with
    | some b => some (b, en1)
    | none => none
  | none => none
theorem tru_of {K : PySem.W.Frag} {H : Hp} {B : Addr → Prop} {d : D} {v : V} {b : Bool} (r : Rp H B d v) (e : truD d = some b) : TruV K v H b := by
  cases r with
  | non => cases e; exact rfl
  | bl b => cases e; exact rfl
  | int i => cases e; exact rfl
  | str y =>
    have e' : (if y.length ≤ sizeLine then some ((y.length : Int) != 0) else none) = some b := e
    split at e'
    · cases e'
      exact ⟨by assumption, rfl⟩
    · cases e'
  | lst nb r rs =>
    cases e
    refine .inl ⟨_, .inl r, ?_⟩
    cases rs <;> rfl
  | tup nb r rs =>
    cases e
    refine .inr (.inl ⟨_, SqT.of r, ?_⟩)
    cases rs <;> rfl
theorem vt_truth (ha : VE X P a fa) (he : ∀ whole, isTrue a X.env whole = (do let v ← whole; standAt a.pos; holding [v] (truthy v)) := by intro _; rfl) : VT X P a (fTru fa) := by
  refine PT.weak (pt_truth ha he) fun σ H Q h => ?_
  obtain ⟨Bf, ow, en, k, b, en', hf, q⟩ := h
  unfold fTru at hf
  split at hf
  · rename_i d en1 h1
    split at hf
    · rename_i b' h2
      cases hf
      exact ⟨Bf, ow, en, k, d, _, h1, fun v ow1 H1 k1 r1 p1 => ⟨_, tru_of p1 h2, q ow1 H1 k1 r1⟩⟩
    · cases hf
  · cases hf
def fBool (f : FE) : FT := fun en => match f en with
  | some (.bool b, en1) => some (b, en1)
  | _ => none
theorem tvT_bool {f : FE} (σ : L2.St) (H : Hp) (Q : Bool → Hp → Prop) (h : tvT P (fBool f) σ H Q) : tv P f σ H fun x H' => ∃ k, x = .bl k ∧ Q k H' := by
  obtain ⟨Bf, ow, en, k, b, en', hf, q⟩ := h
  unfold fBool at hf
  split at hf
  · rename_i b' en1 h1
    cases hf
    exact ⟨Bf, ow, en, k, _, _, h1, fun v ow1 H1 k1 r1 p1 => by cases p1; exact ⟨_, rfl, q ow1 H1 k1 r1⟩⟩
  · cases hf
theorem vt_cmp {op : CmpOp} {r : R2} {g : D → D → Option D} (ho : OpR X (compareOp op) r) (hg : OpV r g) (ha : VE X P a fa) (hb : VE X P b fb) (hm : behindInMarks op b = false) : VT X P (.Compare a [op] [b] pos) (fBool (eOp g fa fb)) :=
  PT.weak (pt_cmpR ho ha hb hm) fun σ H Q h => tv_op hg σ H _ (tvT_bool σ H Q h)
def fNot (f : FT) : FT := fun en => match f en with
  | some (b, en1) => some (!b, en1)
  | none => none
theorem vt_not (ha : VT X P a ta) : VT X P (.UnaryOp .Not a pos) (fNot ta) := by
  refine PT.weak (pt_not ha) fun σ H Q h => ?_
  obtain ⟨Bf, ow, en, k, b, en', hf, q⟩ := h
  unfold fNot at hf
  split at hf
  · rename_i b' en1 h1
    cases hf
    exact ⟨Bf, ow, en, k, _, _, h1, fun ow1 H1 k1 r1 => q ow1 H1 k1 r1⟩
  · cases hf
def fAnd (f g : FT) : FT := fun en => match f en with
  | some (true, en1) => g en1
  | some (false, en1) => some (false, en1)
  | none => none
def fOr (f g : FT) : FT := fun en => match f en with
  | some (true, en1) => some (true, en1)
  | some (false, en1) => g en1
  | none => none
theorem vw_and1 (ha : VT X P a ta) : VW X P (.BoolOp .And [a] pos) ta := pw_and1 ha
theorem vw_or1 (ha : VT X P a ta) : VW X P (.BoolOp .Or [a] pos) ta := pw_or1 ha
theorem vw_and (ha : VT X P a ta) (hb : VW X P (.BoolOp .And (b :: rest) pos) tb) : VW X P (.BoolOp .And (a :: b :: rest) pos) (fAnd ta tb) := by
  refine PW.weak (pw_and ha hb) fun σ H Q h => ?_
  obtain ⟨Bf, ow, en, k, b, en', hf, q⟩ := h
  unfold fAnd at hf
  split at hf
  · rename_i en1 h1
    exact ⟨Bf, ow, en, k, _, _, h1, fun ow1 H1 k1 r1 => ⟨Bf, ow1, en1, k1, b, en', hf, fun ow2 H2 k2 r2 => q ow2 H2 k2 (r1.trans r2)⟩⟩
  · rename_i en1 h1
    cases hf
    exact ⟨Bf, ow, en, k, _, _, h1, fun ow1 H1 k1 r1 => q ow1 H1 k1 r1⟩
  · cases hf
theorem vw_or (ha : VT X P a ta) (hb : VW X P (.BoolOp .Or (b :: rest) pos) tb) : VW X P (.BoolOp .Or (a :: b :: rest) pos) (fOr ta tb) := by
  refine PW.weak (pw_or ha hb) fun σ H Q h => ?_
  obtain ⟨Bf, ow, en, k, b, en', hf, q⟩ := h
  unfold fOr at hf
  split at hf
  · rename_i en1 h1
    cases hf
    exact ⟨Bf, ow, en, k, _, _, h1, fun ow1 H1 k1 r1 => q ow1 H1 k1 r1⟩
  · rename_i en1 h1
    exact ⟨Bf, ow, en, k, _, _, h1, fun ow1 H1 k1 r1 => ⟨Bf, ow1, en1, k1, b, en', hf, fun ow2 H2 k2 r2 => q ow2 H2 k2 (r1.trans r2)⟩⟩
  · cases hf
theorem vt_bop (h : VW X P e ta) : VT X P e ta := h.pt

/-! ### and, or, not, if as values -/
def eAnd (f g : FE) : FE := fun en => match f en with
  | some (.bool true, en1) => g en1
  | some (.bool false, en1) => some (.bool false, en1)
  | _ => none
def eOr (f g : FE) : FE := fun en => match f en with
  | some (.bool true, en1) => some (.bool true, en1)
  | some (.bool false, en1) => g en1
  | _ => none
def eNot (f : FE) : FE := fun en => match f en with
  | some (.bool b, en1) => some (.bool (!b), en1)
  | _ => none
theorem ve_one {op} (h : VE X P a fa) : VE X P (.BoolOp op [a] pos) fa := pe_one h
theorem ve_and (ha : VE X P a fa) (hb : VE X P (.BoolOp .And (b :: rest) pos) fb) : VE X P (.BoolOp .And (a :: b :: rest) pos) (eAnd fa fb) := by
  refine PE.weak (pe_and ha hb) fun σ H Q h => ?_
  obtain ⟨Bf, ow, en, k, d, en', hf, q⟩ := h
  unfold eAnd at hf
  split at hf
  · rename_i en1 h1
    exact ⟨Bf, ow, en, k, _, _, h1, fun v ow1 H1 k1 r1 p1 => by
      cases p1
      exact ⟨true, rfl, Bf, ow1, en1, k1, d, en', hf, fun v ow2 H2 k2 r2 p2 => q v ow2 H2 k2 (r1.trans r2) p2⟩⟩
  · rename_i en1 h1
    cases hf
    exact ⟨Bf, ow, en, k, _, _, h1, fun v ow1 H1 k1 r1 p1 => by
      cases p1
      exact ⟨false, rfl, q _ ow1 H1 k1 r1 (.bl false)⟩⟩
  · cases hf
theorem ve_or (ha : VE X P a fa) (hb : VE X P (.BoolOp .Or (b :: rest) pos) fb) : VE X P (.BoolOp .Or (a :: b :: rest) pos) (eOr fa fb) := by
  refine PE.weak (pe_or ha hb) fun σ H Q h => ?_
  obtain ⟨Bf, ow, en, k, d, en', hf, q⟩ := h
  unfold eOr at hf
  split at hf
  · rename_i en1 h1
    cases hf
    exact ⟨Bf, ow, en, k, _, _, h1, fun v ow1 H1 k1 r1 p1 => by
      cases p1
      exact ⟨true, rfl, q _ ow1 H1 k1 r1 (.bl true)⟩⟩
  · rename_i en1 h1
    exact ⟨Bf, ow, en, k, _, _, h1, fun v ow1 H1 k1 r1 p1 => by
      cases p1
      exact ⟨false, rfl, Bf, ow1, en1, k1, d, en', hf, fun v ow2 H2 k2 r2 p2 => q v ow2 H2 k2 (r1.trans r2) p2⟩⟩
  · cases hf
theorem ve_not (ha : VE X P a fa) : VE X P (.UnaryOp .Not a pos) (eNot fa) := by
  refine PE.weak (pe_not ha) fun σ H Q h => ?_
  obtain ⟨Bf, ow, en, k, d, en', hf, q⟩ := h
  unfold eNot at hf
  split at hf
  · rename_i b en1 h1
    cases hf
    exact ⟨Bf, ow, en, k, _, _, h1, fun v ow1 H1 k1 r1 p1 => by
      cases p1
      exact ⟨_, rfl, q _ ow1 H1 k1 r1 (.bl _)⟩⟩
  · cases hf
def eNeg (f : FE) : FE := fun en => match f en with
  | some (.int b, en1) => some (.int (-b), en1)
  | _ => none
theorem ve_neg (ha : VE X P a fa) : VE X P (.UnaryOp .USub a pos) (eNeg fa) := by
  refine PE.weak (pe_un un_neg ha) fun σ H Q h => ?_
  obtain ⟨Bf, ow, en, k, d, en', hf, q⟩ := h
  unfold eNeg at hf
  split at hf
  · rename_i b en1 h1
    cases hf
    exact ⟨Bf, ow, en, k, _, _, h1, fun v ow1 H1 k1 r1 p1 => by
      cases p1
      exact ⟨_, rfl, q _ ow1 H1 k1 r1 (.int _)⟩⟩
  · cases hf
def eIf (t : FT) (f g : FE) : FE := fun en => match t en with
  | some (true, en1) => f en1
  | some (false, en1) => g en1
  | none => none
theorem ve_if (hc : VT X P c ta) (ha : VE X P a fa) (hb : VE X P b fb) : VE X P (.IfExp c a b pos) (eIf ta fa fb) := by
  refine PE.weak (pe_ifExp hc ha hb) fun σ H Q h => ?_
  obtain ⟨Bf, ow, en, k, d, en', hf, q⟩ := h
  unfold eIf at hf
  split at hf
  · rename_i en1 h1
    exact ⟨Bf, ow, en, k, _, _, h1, fun ow1 H1 k1 r1 => ⟨Bf, ow1, en1, k1, d, en', hf, fun v ow2 H2 k2 r2 p2 => q v ow2 H2 k2 (r1.trans r2) p2⟩⟩
  · rename_i en1 h1
    exact ⟨Bf, ow, en, k, _, _, h1, fun ow1 H1 k1 r1 => ⟨Bf, ow1, en1, k1, d, en', hf, fun v ow2 H2 k2 r2 p2 => q v ow2 H2 k2 (r1.trans r2) p2⟩⟩
  · cases hf
/-- a op1 b op2 c -/
def eChain (g g' : D → D → Option D) (fa fb fc : FE) : FE := fun en => match fa en with
  | some (x, en1) => match fb en1 with
    | some (y, en2) => match g x y with
      | some (.bool true) => match fc en2 with
        | some (z, en3) => match g' y z with
          | some u => some (u, en3)
          | none => none
        | none => none
      | some (.bool false) => some (.bool false, en2)
      | _ => none
    | none => none
  | none => none
theorem tv_chain {r r' : R2} {g g' : D → D → Option D} (hg : OpV r g) (hg' : OpV r' g') (σ : L2.St) (H : Hp) (Q : VK) (h : tv P (eChain g g' fa fb fc) σ H Q) : tChain r r' (tv P fa) (tv P fb) (tv P fc) σ H Q := by
  obtain ⟨Bf, ow, en, k, d, en', hf, q⟩ := h
  unfold eChain at hf
  split at hf <;> first | cases hf | skip
  rename_i x en1 h1
  split at hf <;> first | cases hf | skip
  rename_i y en2 h2
  refine ⟨Bf, ow, en, k, x, en1, h1, fun v1 ow1 H1 k1 r1 p1 => ⟨Bf, ow1, en1, k1, y, en2, h2, fun v2 ow2 H2 k2 r2 p2 => ?_⟩⟩
  split at hf
  · rename_i h3
    split at hf <;> first | cases hf | skip
    rename_i z en3 h4
    split at hf <;> first | cases hf | skip
    rename_i u h5
    refine hg H2 (blk Bf ow2) x y _ v1 v2 _ h3 (r2.rp p1) p2 (fun p hp => k2.nb hp) fun v H3 ex p => ?_
    cases p
    refine ⟨true, rfl, ?_⟩
    rw [if_pos rfl]
    refine ⟨Bf, ow2, en2, k2.ext ex, z, _, h4, fun v3 ow3 H4 k4 r4 p4 => ?_⟩
    refine hg' H4 (blk Bf ow3) y z _ v2 v3 Q h5 (r4.rp (ex.rp p2)) p4 (fun p hp => k4.nb hp) fun v H5 ex' p => ?_
    exact q v ow3 H5 (k4.ext ex') ((((r1.trans r2).trans ex.rel).trans r4).trans ex'.rel) p
  · rename_i h3
    cases hf
    refine hg H2 (blk Bf ow2) x y _ v1 v2 _ h3 (r2.rp p1) p2 (fun p hp => k2.nb hp) fun v H3 ex p => ?_
    cases p
    refine ⟨false, rfl, ?_⟩
    rw [if_neg (by decide)]
    exact q _ ow2 H3 (k2.ext ex) ((r1.trans r2).trans ex.rel) (.bl false)
  · cases hf
theorem ve_chain {op op' : CmpOp} {r r' : R2} {g g' : D → D → Option D} (ho : OpR X (compareOp op) r) (ho' : OpR X (compareOp op') r') (hg : OpV r g) (hg' : OpV r' g') (ha : VE X P a fa) (hb : VE X P b fb) (hc : VE X P c fc)
    (hm : lastMarks [op, op'] [b, c] = false := by with_unfolding_all rfl) : VE X P (.Compare a [op, op'] [b, c] pos) (eChain g g' fa fb fc) :=
  PE.weak (pe_chain ho ho' ha hb hc hm) (tv_chain hg hg')
theorem vt_chain {op op' : CmpOp} {r r' : R2} {g g' : D → D → Option D} (ho : OpR X (compareOp op) r) (ho' : OpR X (compareOp op') r') (hg : OpV r g) (hg' : OpV r' g') (ha : VE X P a fa) (hb : VE X P b fb) (hc : VE X P c fc)
    (hm : lastMarks [op, op'] [b, c] = false := by with_unfolding_all rfl) : VT X P (.Compare a [op, op'] [b, c] pos) (fBool (eChain g g' fa fb fc)) :=
  PT.weak (pt_chain ho ho' ha hb hc hm) fun σ H Q h => tv_chain hg hg' σ H _ (tvT_bool σ H Q h)

/-! ### argument lists -/
abbrev FA := En → Option (List D × En)
def tvA (P : Pl) (f : FA) : TA := fun σ H Q => ∃ Bf ow en, Ok P Bf ow en σ H ∧ ∃ ds en', f en = some (ds, en') ∧
  ∀ vs ow' H', Ok P Bf ow' en' σ H' → Rel P H ow H' ow' → RpL H' (blk Bf ow') ds vs → Q vs H'
def VA (X : Cx) (P : Pl) (es : List Expr) (f : FA) : Prop := PA X es (tvA P f)
theorem PA.weak {X : Cx} {e : List Expr} {t t' : TA} (h : PA X e t) (w : ∀ σ H Q, t' σ H Q → t σ H Q) : PA X e t' :=
  ⟨fun pos pins s σ H Q I q => h.run pos pins s σ H Q I (w σ H Q q)⟩
def aNil : FA := fun en => some ([], en)
def aCons (f : FE) (g : FA) : FA := fun en => match f en with
  | some (d, en1) => match g en1 with
    | some (ds, en2) => some (d :: ds, en2)
    | none => none
  | none => none
variable {es : List Expr} {ga : FA}
theorem va_nil : VA X P [] aNil := by
  refine PA.weak pa_nil fun σ H Q h => ?_
  obtain ⟨Bf, ow, en, k, d, en', hf, q⟩ := h
  cases hf
  exact q [] ow H k .refl .nil
theorem va_cons (ha : VE X P e fa) (hr : VA X P es ga) (hs : starEach (e :: es) X.env = (false, eval e X.env) :: starEach es X.env := by rfl) : VA X P (e :: es) (aCons fa ga) := by
  refine PA.weak (pa_cons ha hr hs) fun σ H Q h => ?_
  obtain ⟨Bf, ow, en, k, d, en', hf, q⟩ := h
  unfold aCons at hf
  split at hf <;> first | cases hf | skip
  rename_i d1 en1 h1
  split at hf <;> first | cases hf | skip
  rename_i ds en2 h2
  exact ⟨Bf, ow, en, k, _, _, h1, fun v1 ow1 H1 k1 r1 p1 => ⟨Bf, ow1, en1, k1, _, _, h2, fun vs ow2 H2 k2 r2 p2 => q _ ow2 H2 k2 (r1.trans r2) (.cons (r2.rp p1) p2)⟩⟩

/-! ### displays -/
def eTup (f : FA) : FE := fun en => match f en with
  | some (ds, en1) => if ds.length ≤ sizeLine then some (.tuple ds, en1) else none
  | none => none
def eLst (f : FA) : FE := fun en => match f en with
  | some (ds, en1) => if ds.length ≤ sizeLine then some (.list ds, en1) else none
  | none => none
theorem ve_tup {x1} (h : VA X P es ga) : VE X P (.Tuple es x1 pos) (eTup ga) := by
  refine PE.weak (pe_tup h) fun σ H Q h => ?_
  obtain ⟨Bf, ow, en, k, d, en', hf, q⟩ := h
  unfold eTup at hf
  split at hf <;> first | cases hf | skip
  rename_i ds en1 h1
  split at hf <;> first | cases hf | skip
  rename_i hz
  exact ⟨Bf, ow, en, k, _, _, h1, fun vs ow1 H1 k1 r1 p1 => ⟨by rw [← p1.length]; exact hz, fun p hp => q _ ow1 _ (k1.ext (.upd hp)) (r1.trans (Ext.upd hp).rel) (.tup (k1.nb hp) upd_same ((Ext.upd hp).rpl p1))⟩⟩
theorem ve_lst (h : VA X P es ga) : VE X P (.List es pos) (eLst ga) := by
  refine PE.weak (pe_lst h) fun σ H Q h => ?_
  obtain ⟨Bf, ow, en, k, d, en', hf, q⟩ := h
  unfold eLst at hf
  split at hf <;> first | cases hf | skip
  rename_i ds en1 h1
  split at hf <;> first | cases hf | skip
  rename_i hz
  exact ⟨Bf, ow, en, k, _, _, h1, fun vs ow1 H1 k1 r1 p1 => ⟨by rw [← p1.length]; exact hz, fun p hp => q _ ow1 _ (k1.ext (.upd hp)) (r1.trans (Ext.upd hp).rel) (.lst (k1.nb hp) (.inl upd_same) ((Ext.upd hp).rpl p1))⟩⟩

/-! ### calls of built-ins, pure -/
def CaV (r : List V → Hp → VK → Prop) (g : List D → Option D) : Prop := ∀ (H : Hp) (B : Addr → Prop) (ds : List D) (d : D) (vs : List V) (Q : VK), g ds = some d → RpL H B ds vs → (∀ p, H p = none → ¬ B p) →
  (∀ v H', Ext H H' → Rp H' B d v → Q v H') → r vs H Q
def eCall (g : List D → Option D) (f : FA) : FE := fun en => match f en with
  | some (ds, en1) => match g ds with
    | some d => some (d, en1)
    | none => none
  | none => none
theorem tv_call {r : List V → Hp → VK → Prop} {g : List D → Option D} (hg : CaV r g) (σ : L2.St) (H : Hp) (Q : VK) (h : tv P (eCall g ga) σ H Q) : tCB r (tvA P ga) σ H Q := by
  obtain ⟨Bf, ow, en, k, d, en', hf, q⟩ := h
  unfold eCall at hf
  split at hf <;> first | cases hf | skip
  rename_i ds en1 h1
  split at hf <;> first | cases hf | skip
  rename_i d' h2
  exact ⟨Bf, ow, en, k, _, _, h1, fun vs ow1 H1 k1 r1 p1 => hg H1 (blk Bf ow1) ds _ vs Q h2 p1 (fun p hp => k1.nb hp) fun v H' ex p => q v ow1 H' (k1.ext ex) (r1.trans ex.rel) p⟩
theorem ve_callB {id : String} {x : Str} {p : Pos} {r : List V → Hp → VK → Prop} {g : List D → Option D} (hc : CallR X (.builtin id) r) (hgv : CaV r g) (hg : Gl X x) (hm : X.mg x = none) (hv : bootBuiltins x = some (.builtin id)) (ha : VA X P (e :: es) ga)
    (hn : x ≠ "__name__" := by decide) (hdb : (x == ("__debug__" : Str)) = false := by decide)
    (he : starEach (e :: es) X.env = (false, eval e X.env) :: starEach es X.env := by rfl) (hpl : (backTo pos (starEach es X.env)).any (·.1) = false := by rfl) : VE X P (.Call (.Name x p) (e :: es) [] pos) (eCall g ga) :=
  PE.weak (pe_callB hc hg hm hv ha hn hdb he hpl) (tv_call hgv)
theorem ve_callTy {T : String} {x : Str} {p : Pos} {r : List V → Hp → VK → Prop} {g : List D → Option D} (hc : CallR X (.type T) r) (hgv : CaV r g) (hg : Gl X x) (hm : X.mg x = none) (hv : bootBuiltins x = some (.type T)) (ha : VA X P (e :: es) ga)
    (hn : x ≠ "__name__" := by decide) (hdb : (x == ("__debug__" : Str)) = false := by decide)
    (he : starEach (e :: es) X.env = (false, eval e X.env) :: starEach es X.env := by rfl) (hpl : (backTo pos (starEach es X.env)).any (·.1) = false := by rfl) : VE X P (.Call (.Name x p) (e :: es) [] pos) (eCall g ga) :=
  PE.weak (pe_callTy hc hg hm hv ha hn hdb he hpl) (tv_call hgv)
end
end VL

namespace VL
open PySem PySem.Spec
open PyProof.Rows L2

/-! ### statements -/
inductive Out where
  | nx (en : En) | bk (en : En) | ct (en : En) | rt (d : D) (en : En) | rf (ds : List D) (en : En) | rd (t : Bool) (kvs : DKV) (en : En)
abbrev FS := En → Option Out
/-- .. across statements: slots may get lists of their own -/
structure RelS (P : Pl) (H : Hp) (ow : Nat → Option Addr) (H' : Hp) (ow' : Nat → Option Addr) : Prop where
  hkeep : ∀ b o, H b = some o → NT o → (∀ i, ow i ≠ some b) → H' b = some o ∧ (∀ i, ow' i ≠ some b)
  hsome : ∀ b, H b ≠ none → H' b ≠ none
  hpin : ∀ i, i ∈ P → ow' i = ow i
  hfrz : ∀ b o u, H b = some (.frz o u) → H' b = some (.frz o u)
  hnt : ∀ b, nt H b → nt H' b
section
variable {P : Pl} {Bf : Bk} {ow ow' ow1 : Nat → Option Addr} {H H' H1 : Hp}
theorem Rel.s (a : Rel P H ow H' ow') : RelS P H ow H' ow' := ⟨a.hkeep, a.hsome, a.hpin, a.hfrz, a.hnt⟩
theorem RelS.refl : RelS P H ow H ow := Rel.refl.s
theorem RelS.trans (a : RelS P H ow H1 ow1) (b : RelS P H1 ow1 H' ow') : RelS P H ow H' ow' :=
  ⟨fun x o e t n => b.hkeep x o (a.hkeep x o e t n).1 t (a.hkeep x o e t n).2, fun x e => b.hsome x (a.hsome x e), fun i hi => (b.hpin i hi).trans (a.hpin i hi), fun x o u e => b.hfrz x o u (a.hfrz x o u e), fun x e => b.hnt x (a.hnt x e)⟩
theorem RelS.mv (a : RelS P H ow H' ow') : ∀ b o, H b = some o → NT o → ¬ blk Bf ow b → H' b = some o ∧ ¬ blk Bf ow' b := fun b o e t n => by
  have h := a.hkeep b o e t fun i z => n (.inr ⟨i, z⟩)
  exact ⟨h.1, fun z => z.elim (fun z => n (.inl z)) fun ⟨i, z⟩ => h.2 i z⟩
theorem RelS.rp (a : RelS P H ow H' ow') {d : D} {v : V} (r : Rp H (blk Bf ow) d v) : Rp H' (blk Bf ow') d v := r.move a.mv
theorem RelS.rpl (a : RelS P H ow H' ow') {d : List D} {v : List V} (r : RpL H (blk Bf ow) d v) : RpL H' (blk Bf ow') d v := r.move a.mv
end
def post (P : Pl) (Bf : Bk) (Dn : Ends) (H : Hp) (ow : Nat → Option Addr) : Out → Prop
  | .nx en' => ∀ ow' σ' H', Ok P Bf ow' en' σ' H' → RelS P H ow H' ow' → Dn.nx σ' H'
  | .bk en' => ∀ ow' σ' H', Ok P Bf ow' en' σ' H' → RelS P H ow H' ow' → Dn.bk σ' H'
  | .ct en' => ∀ ow' σ' H', Ok P Bf ow' en' σ' H' → RelS P H ow H' ow' → Dn.ct σ' H'
  | .rt d en' => ∀ ow' σ' H' v, Ok P Bf ow' en' σ' H' → RelS P H ow H' ow' → Rp H' (blk Bf ow') d v → Dn.rt v H'
  | .rf ds en' => ∀ ow' σ' H' p xs, Ok P (insB Bf p) ow' en' σ' H' → RelS P H ow H' ow' → ¬ Bf.bl p → ¬ Bf.od p → (∀ i, ow' i ≠ some p) → H' p = some (.lst xs) → RpL H' (blk (insB Bf p) ow') ds xs → Dn.rt (.ref p) H'
  | .rd t kvs en' => ∀ ow' σ' H' p, Ok P (insB Bf p) ow' en' σ' H' → RelS P H ow H' ow' → ¬ Bf.bl p → ¬ Bf.od p → (∀ i, ow' i ≠ some p) → DcAt H' (blk (insB Bf p) ow') p ⟨t, false⟩ kvs → Dn.rt (.ref p) H'
def tvS (P : Pl) (f : FS) : TS := fun Dn σ H => ∃ Bf ow en, Ok P Bf ow en σ H ∧ ∃ o, f en = some o ∧ post P Bf Dn H ow o
def VS (X : Cx) (P : Pl) (st : Stmt) (f : FS) : Prop := PS X st (tvS P f)
def VB (X : Cx) (P : Pl) (st : List Stmt) (f : FS) : Prop := PSs X st (tvS P f)
theorem PS.weak {X : Cx} {st : Stmt} {t t' : TS} (h : PS X st t) (w : ∀ Dn σ H, t' Dn σ H → t Dn σ H) : PS X st t' :=
  ⟨fun pins s σ H Dn I q => h.run pins s σ H Dn I (w Dn σ H q)⟩
theorem PSs.weak {X : Cx} {st : List Stmt} {t t' : TS} (h : PSs X st t) (w : ∀ Dn σ H, t' Dn σ H → t Dn σ H) : PSs X st t' :=
  ⟨fun pins s σ H Dn I q => h.run pins s σ H Dn I (w Dn σ H q)⟩
theorem post.trans {P : Pl} {Bf : Bk} {Dn : Ends} {H H1 : Hp} {ow ow1 : Nat → Option Addr} {o : Out} (h : post P Bf Dn H ow o) (r : RelS P H ow H1 ow1) : post P Bf Dn H1 ow1 o := by
  cases o with
  | nx en => exact fun ow' σ' H' k r' => h ow' σ' H' k (r.trans r')
  | bk en => exact fun ow' σ' H' k r' => h ow' σ' H' k (r.trans r')
  | ct en => exact fun ow' σ' H' k r' => h ow' σ' H' k (r.trans r')
  | rt d en => exact fun ow' σ' H' v k r' p => h ow' σ' H' v k (r.trans r') p
  | rf d en => exact fun ow' σ' H' p xs k r' => h ow' σ' H' p xs k (r.trans r')
  | rd t d en => exact fun ow' σ' H' p k r' => h ow' σ' H' p k (r.trans r')

section
variable {X : Cx} {P : Pl} {a b c e : Expr} {st : Stmt} {rest as bs : List Stmt} {fa fb fc : FE} {ta tb : FT} {f g : FS} {pos : Pos}
def sNil : FS := fun en => some (.nx en)
def sSeq (f g : FS) : FS := fun en => match f en with
  | some (.nx en1) => g en1
  | some (.bk en1) => some (.bk en1)
  | some (.ct en1) => some (.ct en1)
  | some (.rt d en1) => some (.rt d en1)
  | some (.rf d en1) => some (.rf d en1)
  | some (.rd t d en1) => some (.rd t d en1)
  | none => none
theorem vb_nil : VB X P [] sNil := PSs.weak pss_nil fun Dn σ H h => by
  obtain ⟨Bf, ow, en, k, o, hf, q⟩ := h
  cases hf
  exact q ow σ H k .refl
theorem vb_cons (h1 : VS X P st f) (h2 : VB X P rest g) : VB X P (st :: rest) (sSeq f g) := PSs.weak (pss_cons h1 h2) fun Dn σ H h => by
  obtain ⟨Bf, ow, en, k, o, hf, q⟩ := h
  unfold sSeq at hf
  split at hf
  · rename_i en1 h1
    exact ⟨Bf, ow, en, k, _, h1, fun ow1 σ1 H1 k1 r1 => ⟨Bf, ow1, en1, k1, o, hf, q.trans r1⟩⟩
  · rename_i en1 h1
    cases hf
    exact ⟨Bf, ow, en, k, _, h1, q⟩
  · rename_i en1 h1
    cases hf
    exact ⟨Bf, ow, en, k, _, h1, q⟩
  · rename_i d en1 h1
    cases hf
    exact ⟨Bf, ow, en, k, _, h1, q⟩
  · rename_i d en1 h1
    cases hf
    exact ⟨Bf, ow, en, k, _, h1, q⟩
  · rename_i t d en1 h1
    cases hf
    exact ⟨Bf, ow, en, k, _, h1, q⟩
  · cases hf
theorem vb_one (h1 : VS X P st f) : VB X P [st] f := pss_one h1
def sBrk : FS := fun en => some (.bk en)
def sCnt : FS := fun en => some (.ct en)
theorem vs_pass : VS X P (.Pass pos) sNil := PS.weak ps_pass fun Dn σ H h => by
  obtain ⟨Bf, ow, en, k, o, hf, q⟩ := h
  cases hf
  exact q ow σ H k .refl
theorem vs_break : VS X P (.Break pos) sBrk := PS.weak ps_break fun Dn σ H h => by
  obtain ⟨Bf, ow, en, k, o, hf, q⟩ := h
  cases hf
  exact q ow σ H k .refl
theorem vs_continue : VS X P (.Continue pos) sCnt := PS.weak ps_continue fun Dn σ H h => by
  obtain ⟨Bf, ow, en, k, o, hf, q⟩ := h
  cases hf
  exact q ow σ H k .refl
theorem vs_doc {x j pos pos'} : VS X P (.Expr (.Constant (.str x) j pos) pos') sNil := PS.weak ps_doc fun Dn σ H h => by
  obtain ⟨Bf, ow, en, k, o, hf, q⟩ := h
  cases hf
  exact q ow σ H k .refl
def sNever : FS := fun _ => none
theorem vs_never : VS X P st sNever := PS.weak ps_never fun Dn σ H h => by
  obtain ⟨Bf, ow, en, k, o, hf, q⟩ := h
  cases hf
def sDrop (f : FE) : FS := fun en => match f en with
  | some (_, en1) => some (.nx en1)
  | none => none
theorem vs_expr (he : VE X P e fa) (hs : swapsWith e none pos.line X.env = pure false := by rfl) : VS X P (.Expr e pos) (sDrop fa) := PS.weak (ps_expr he hs) fun Dn σ H h => by
  obtain ⟨Bf, ow, en, k, o, hf, q⟩ := h
  unfold sDrop at hf
  split at hf <;> first | cases hf | skip
  rename_i d en1 h1
  exact ⟨Bf, ow, en, k, _, _, h1, fun v ow1 H1 k1 r1 p1 => q ow1 σ H1 k1 r1.s⟩
def sRet (f : FE) : FS := fun en => match f en with
  | some (d, en1) => some (.rt d en1)
  | none => none
theorem vs_ret (he : VE X P e fa) : VS X P (.Return (some e) pos) (sRet fa) := PS.weak (ps_ret he) fun Dn σ H h => by
  obtain ⟨Bf, ow, en, k, o, hf, q⟩ := h
  unfold sRet at hf
  split at hf <;> first | cases hf | skip
  rename_i d en1 h1
  exact ⟨Bf, ow, en, k, _, _, h1, fun v ow1 H1 k1 r1 p1 => q ow1 σ H1 v k1 r1.s p1⟩
def sRetN : FS := fun en => some (.rt .none en)
theorem vs_retN : VS X P (.Return none pos) sRetN := PS.weak ps_retN fun Dn σ H h => by
  obtain ⟨Bf, ow, en, k, o, hf, q⟩ := h
  cases hf
  exact q ow σ H .non k .refl .non
def sIf (t : FT) (f g : FS) : FS := fun en => match t en with
  | some (true, en1) => f en1
  | some (false, en1) => g en1
  | none => none
theorem vs_if (hc : VT X P c ta) (ha : VB X P as f) (hb : VB X P bs g) : VS X P (.If c as bs pos) (sIf ta f g) := PS.weak (ps_if hc ha hb) fun Dn σ H h => by
  obtain ⟨Bf, ow, en, k, o, hf, q⟩ := h
  unfold sIf at hf
  split at hf
  · rename_i en1 h1
    exact ⟨Bf, ow, en, k, _, _, h1, fun ow1 H1 k1 r1 => ⟨Bf, ow1, en1, k1, o, hf, q.trans r1.s⟩⟩
  · rename_i en1 h1
    exact ⟨Bf, ow, en, k, _, _, h1, fun ow1 H1 k1 r1 => ⟨Bf, ow1, en1, k1, o, hf, q.trans r1.s⟩⟩
  · cases hf

/-! ### stores -/
variable {ow : Nat → Option Addr} {en : En} {σ : L2.St} {H : Hp} {Bf : Bk}
def sSet (i : Nat) (f : FE) : FS := fun en => match f en with
  | some (d, en1) => some (.nx (en1.set i (.va d)))
  | none => none
theorem vs_set {i : Nat} {x : Str} {pos' : Pos} (hN : X.N.Nodup) (hi : X.N[i]? = some x) (hx : Loc X.env.scope x := by first | exact .inl rfl | exact .inr rfl) (hP : i ∉ P) (he : VE X P e fa) (hs : swapsWith e (some (.Name x pos')) pos.line X.env = pure false := by rfl)
    (hf : X.fn x = true ∨ X.env.scope.names.lookup x = some .local := by first | exact .inl rfl | exact .inr rfl | assumption) : VS X P (.Assign [.Name x pos'] e pos) (sSet i fa) :=
  PS.weak (ps_set hN hi hx he hs hf) fun Dn σ H h => by
    obtain ⟨Bf, ow, en, k, o, hf, q⟩ := h
    unfold sSet at hf
    split at hf <;> first | cases hf | skip
    rename_i d en1 h1
    refine ⟨Bf, ow, en, k, _, _, h1, fun v ow1 H1 k1 r1 p1 => ?_⟩
    have p2 := p1.move (H' := H1) (B' := blk Bf (dropOw ow1 i)) fun b o e t n => ⟨e, fun z => n (dropOw_blk z)⟩
    exact q _ _ _ (k1.set hP p2) (r1.trans (dropOw_rel hP)).s

/-! ### targets -/
theorem wipe_set {x : Option V} {i : Nat} : ∀ (vs : List Nat) (σ : L2.St), wipe (σ.set i x) vs = if i ∈ vs then wipe σ vs else (wipe σ vs).set i x
  | [], σ => by simp [wipe]
  | v :: vs, σ => by
    unfold wipe
    rw [wipe_set vs σ]
    by_cases hv : i = v
    · subst hv
      by_cases h : i ∈ vs
      · simp [h]
      · simp [h, List.set_set]
    · by_cases h : i ∈ vs
      · simp [h]
      · simp [h, hv]
        exact List.set_comm _ _ hv
def Wp (ts : List Nat) (σ σ' : L2.St) : Prop := ∀ vs : List Nat, (∀ i ∈ ts, i ∈ vs) → wipe σ' vs = wipe σ vs
abbrev FG := D → En → Option En
def tvG (P : Pl) (ts : List Nat) (g : FG) : TG := fun v σ H Q => ∃ Bf ow en d, Ok P Bf ow en σ H ∧ Rp H (blk Bf ow) d v ∧ ∃ en', g d en = some en' ∧ ∀ ow' σ', Ok P Bf ow' en' σ' H → Rel P H ow H ow' → Wp ts σ σ' → Q σ' H
def VG (X : Cx) (P : Pl) (t : Expr) (ts : List Nat) (g : FG) : Prop := PG X t (tvG P ts g)
theorem PG.weak {X : Cx} {e : Expr} {t t' : TG} (h : PG X e t) (w : ∀ v σ H Q, t' v σ H Q → t v σ H Q) : PG X e t' :=
  ⟨fun pins s σ H v u Q I r q => h.run pins s σ H v u Q I r (w v σ H Q q)⟩
theorem PGs.weak {X : Cx} {e : List Expr} {t t' : TGs} (h : PGs X e t) (w : ∀ v σ H Q, t' v σ H Q → t v σ H Q) : PGs X e t' :=
  ⟨fun pins s σ H v u Q I r q => h.run pins s σ H v u Q I r (w v σ H Q q)⟩
def gNm (i : Nat) : FG := fun d en => some (en.set i (.va d))
theorem vg_name {i : Nat} {x : Str} (hN : X.N.Nodup) (hi : X.N[i]? = some x) (hx : Loc X.env.scope x := by first | exact .inl rfl | exact .inr rfl) (hP : i ∉ P) (hf : X.fn x = true ∨ X.env.scope.names.lookup x = some .local := by first | exact .inl rfl | exact .inr rfl | assumption) : VG X P (.Name x pos) [i] (gNm i) :=
  PG.weak (pg_name hN hi hx hf) fun v σ H Q h => by
    obtain ⟨Bf, ow, en, d, k, p, en', hg, q⟩ := h
    cases hg
    have p2 := p.move (H' := H) (B' := blk Bf (dropOw ow i)) fun b o e t n => ⟨e, fun z => n (dropOw_blk z)⟩
    exact q _ _ (k.set hP p2) (dropOw_rel hP) fun vs hv => by rw [wipe_set, if_pos (hv i (by simp))]
abbrev FGs := List D → En → Option En
def tvGs (P : Pl) (ts : List Nat) (g : FGs) : TGs := fun vs σ H Q => ∃ Bf ow en ds, Ok P Bf ow en σ H ∧ RpL H (blk Bf ow) ds vs ∧ ∃ en', g ds en = some en' ∧ ∀ ow' σ', Ok P Bf ow' en' σ' H → Rel P H ow H ow' → Wp ts σ σ' → Q σ' H
def VGs (X : Cx) (P : Pl) (t : List Expr) (ts : List Nat) (g : FGs) : Prop := PGs X t (tvGs P ts g)
def gsNil : FGs := fun ds en => match ds with
  | [] => some en
  | _ => none
def gsCons (g : FG) (h : FGs) : FGs := fun ds en => match ds with
  | d :: r => match g d en with
    | some en1 => h r en1
    | none => none
  | [] => none
theorem vgs_nil : VGs X P [] [] gsNil := PGs.weak pgs_nil fun v σ H Q h => by
  obtain ⟨Bf, ow, en, ds, k, p, en', hg, q⟩ := h
  unfold gsNil at hg
  split at hg <;> first | cases hg | skip
  cases p
  exact ⟨rfl, q _ _ k .refl fun _ _ => rfl⟩
theorem vgs_cons {es : List Expr} {g1 : FG} {g2 : FGs} {t1 t2 : List Nat} (h1 : VG X P e t1 g1) (h2 : VGs X P es t2 g2) (hs : (assignEach (e :: es) X.env).map (·.2) = assign e X.env :: (assignEach es X.env).map (·.2) := by rfl) : VGs X P (e :: es) (t1 ++ t2) (gsCons g1 g2) :=
  PGs.weak (pgs_cons h1 h2 hs) fun v σ H Q h => by
    obtain ⟨Bf, ow, en, ds, k, p, en', hg, q⟩ := h
    unfold gsCons at hg
    split at hg <;> first | cases hg | skip
    rename_i d r
    split at hg <;> first | cases hg | skip
    rename_i en1 h1
    cases p with
    | cons p ps =>
      exact ⟨_, _, rfl, Bf, ow, en, d, k, p, en1, h1, fun ow1 σ1 k1 r1 w1 => ⟨Bf, ow1, en1, r, k1, r1.rpl ps, en', hg, fun ow2 σ2 k2 r2 w2 => q ow2 σ2 k2 (r1.trans r2) fun vs hv =>
        (w2 vs fun i hi => hv i (List.mem_append_right _ hi)).trans (w1 vs fun i hi => hv i (List.mem_append_left _ hi))⟩⟩
def gTp (n : Nat) (g : FGs) : FG := fun d en => match d with
  | .tuple ds => if ds.length = n then g ds en else none
  | _ => none
theorem vg_tup {es : List Expr} {k : Nat} {g : FGs} {n : Nat} {ts : List Nat} (hc : X.calm = true) (h : VGs X P es ts g) (hn : (assignEach es X.env).length = n := by rfl) (hst : (assignEach es X.env).findIdx? (·.1) = none := by rfl) : VG X P (.Tuple es k pos) ts (gTp n g) :=
  PG.weak (pg_tup hc h hn hst) fun v σ H Q h => by
    obtain ⟨Bf, ow, en, d, k, p, en', hg, q⟩ := h
    unfold gTp at hg
    split at hg <;> first | cases hg | skip
    split at hg <;> first | cases hg | skip
    rename_i hl
    cases p with
    | tup nb r rs => exact ⟨_, _, rfl, SqT.of r, by rw [← rs.length]; exact hl, Bf, ow, en, _, k, rs, en', hg, q⟩
def sAsg (f : FE) (g : FG) : FS := fun en => match f en with
  | some (d, en1) => match g d en1 with
    | some en2 => some (.nx en2)
    | none => none
  | none => none
theorem vs_asg {tg : Expr} {g : FG} {ts : List Nat} (he : VE X P e fa) (hg : VG X P tg ts g) (hs : swapsWithSole [tg] e pos.line X.env = pure false := by rfl) (hw : swappedStores [tg] e X.env = pure none := by rfl)
    (h1 : (assignEach [tg] X.env).map (·.2) = [assign tg X.env] := by rfl) : VS X P (.Assign [tg] e pos) (sAsg fa g) := PS.weak (ps_asg he hg hs hw h1) fun Dn σ H h => by
  obtain ⟨Bf, ow, en, k, o, hf, q⟩ := h
  unfold sAsg at hf
  split at hf <;> first | cases hf | skip
  rename_i d en1 h1
  split at hf <;> first | cases hf | skip
  rename_i en2 h2
  exact ⟨Bf, ow, en, k, _, _, h1, fun v ow1 H1 k1 r1 p1 => ⟨Bf, ow1, en1, d, k1, p1, en2, h2, fun ow2 σ2 k2 r2 _ => q _ _ _ k2 (r1.trans r2).s⟩⟩
end
end VL

namespace VL
open PySem PySem.Spec
open PyProof.Rows L2

/-! ### new lists -/
section
variable {P : Pl} {Bf : Bk} {ow ow' ow1 : Nat → Option Addr} {en en' : En} {σ σ' : L2.St} {H H' H1 : Hp} {p : Addr} {ds : List D} {xs : List V} {d : D} {v : V}
theorem insB_blk {b : Addr} (z : blk (insB Bf p) ow b) : blk Bf ow b ∨ b = p := by
  rcases z with (z | z) | z
  · exact .inl (.inl z)
  · exact .inr z
  · exact .inl (.inr z)
theorem blk_insB {b : Addr} (z : blk Bf ow b) : blk (insB Bf p) ow b := by
  rcases z with z | z
  · exact .inl (.inl z)
  · exact .inr z
/-- what is reached in H does not reach a new address -/
theorem Rp.avoid (hp : H p = none) (k : Ext H H') (r : Rp H (blk Bf ow) d v) : Rp H' (blk (insB Bf p) ow) d v := r.move fun b o e t n => ⟨k b o e, fun z => by
  rcases insB_blk z with z | z
  · exact n z
  · subst z
    rw [hp] at e
    cases e⟩
theorem RpL.avoid (hp : H p = none) (k : Ext H H') (r : RpL H (blk Bf ow) ds xs) : RpL H' (blk (insB Bf p) ow) ds xs := r.move fun b o e t n => ⟨k b o e, fun z => by
  rcases insB_blk z with z | z
  · exact n z
  · subst z
    rw [hp] at e
    cases e⟩
theorem insB_blkN {b : Addr} (z : blkN (insB Bf p) ow b) : blkN Bf ow b ∨ b = p := by
  rcases z with z | z
  · exact (insB_blk z).elim (fun z => .inl (.inl z)) .inr
  · exact .inl (.inr z)
theorem blkN_insB {b : Addr} (z : blkN Bf ow b) : blkN (insB Bf p) ow b := z.elim (fun z => .inl (blk_insB z)) .inr
theorem Rx.avoidN (hp : H p = none) (k : Ext H H') (r : Rx H (blkN Bf ow) d v) : Rx H' (blkN (insB Bf p) ow) d v := r.move fun b o e t n => ⟨k b o e, fun z => by
  rcases insB_blkN z with z | z
  · exact n z
  · subst z
    rw [hp] at e
    cases e⟩
theorem RpL.unins (r : RpL H (blk (insB Bf p) ow) ds xs) : RpL H (blk Bf ow) ds xs := r.move fun b o e t n => ⟨e, fun z => n (blk_insB z)⟩
theorem Rp.unins (r : Rp H (blk (insB Bf p) ow) d v) : Rp H (blk Bf ow) d v := r.move fun b o e t n => ⟨e, fun z => n (blk_insB z)⟩
theorem Ok.avoid (k : Ok P Bf ow en σ H) (hp : H p = none) {o : HO} (ho : ∀ xs, o ≠ .tup xs := by intro _ z; exact nomatch z) : Ok P (insB Bf p) ow en σ (upd H p o) where
  hlen := k.hlen
  hva := fun i d e => let ⟨v, h1, h2⟩ := k.hva i d e; ⟨v, h1, h2.avoid hp (.upd hp)⟩
  hvn := fun i d e => let ⟨v, h1, h2⟩ := k.hvn i d e; ⟨v, h1, h2.avoidN hp (.upd hp)⟩
  hob := fun i s e f => let ⟨x, h1, h2, h3⟩ := k.hob i s e f; ⟨x, h1, h2, h3.move (fun o e _ => Ext.upd hp _ _ e) fun b o e t n => ⟨Ext.upd hp b o e, fun z => by
    rcases insB_blk z with z | z
    · exact n z
    · subst z
      rw [hp] at e
      cases e⟩⟩
  hdom := k.hdom
  hinj := k.hinj
  hbf := fun b h => by
    rcases h with h | h
    · obtain ⟨u, e, n⟩ := k.hbf b h
      exact ⟨u, Ext.upd (o := o) hp b u e, n⟩
    · subst h
      exact ⟨o, upd_same, ho⟩
  hod := fun b h => (Ext.upd (o := o) hp).some b (k.hod b h)
  hloc := fun i a e hi => by
    obtain ⟨h1, h2⟩ := k.hloc i a e hi
    refine ⟨fun z => ?_, h2⟩
    rcases z with z | z
    · exact h1 z
    · subst z
      obtain ⟨_, _, _, _, h3⟩ := k.hat e
      exact h3.ne hp
  htab := k.htab.ext (Ext.upd hp)
theorem Ok.unins (k : Ok P (insB Bf p) ow en σ H) : Ok P Bf ow en σ H where
  hlen := k.hlen
  hva := fun i d e => let ⟨v, h1, h2⟩ := k.hva i d e; ⟨v, h1, h2.unins⟩
  hvn := fun i d e => let ⟨v, h1, h2⟩ := k.hvn i d e; ⟨v, h1, h2.move fun b o e t n => ⟨e, fun z => n (blkN_insB z)⟩⟩
  hob := fun i s e f => let ⟨x, h1, h2, h3⟩ := k.hob i s e f; ⟨x, h1, h2, h3.move (fun o e _ => e) fun b o e t n => ⟨e, fun z => n (blk_insB z)⟩⟩
  hdom := k.hdom
  hinj := k.hinj
  hbf := fun b h => k.hbf b (.inl h)
  hod := k.hod
  hloc := fun i a e hi => ⟨fun z => (k.hloc i a e hi).1 (.inl z), (k.hloc i a e hi).2⟩
  htab := k.htab
def putOw (ow : Nat → Option Addr) (i : Nat) (p : Addr) : Nat → Option Addr := fun j => if j = i then some p else ow j
theorem putOw_blk {i : Nat} {b : Addr} (z : blk Bf (putOw ow i p) b) : blk (insB Bf p) ow b := by
  rcases z with z | ⟨j, z⟩
  · exact .inl (.inl z)
  · unfold putOw at z
    split at z
    · cases z
      exact .inl (.inr rfl)
    · exact .inr ⟨j, z⟩
/-- a slot gets an object of its own -/
theorem Ok.putO (k : Ok P (insB Bf p) ow en σ H) {i : Nat} {sl : Sl} (ho : isOwn sl = true) (hi : i ∉ P) (hl : i < en.length) (nb : ¬ Bf.bl p) (no : ¬ Bf.od p) (nw : ∀ j, ow j ≠ some p) (hp : OwnAt H (blk (insB Bf p) ow) p sl) :
    Ok P Bf (putOw ow i p) (en.set i sl) (σ.set i (some (.ref p))) H := by
  have mv : ∀ b o, H b = some o → NT o → ¬ blk (insB Bf p) ow b → H b = some o ∧ ¬ blk Bf (putOw ow i p) b := fun b o e t n => ⟨e, fun z => n (putOw_blk z)⟩
  have mvN : ∀ b o, H b = some o → NT o → ¬ blkN (insB Bf p) ow b → H b = some o ∧ ¬ blkN Bf (putOw ow i p) b := fun b o e t n => ⟨e, fun z => n (z.elim (fun z => .inl (putOw_blk z)) .inr)⟩
  refine ⟨by simp [k.hlen], fun j d' e => ?_, fun j d' e => ?_, fun j s' e f => ?_, fun j a e => ?_, fun j l a e1 e2 => ?_, fun b h => k.hbf b (.inl h), k.hod, fun j a e hj => ?_, k.htab⟩
  · by_cases hj : j = i
    · subst hj
      rw [List.getElem?_set_self hl] at e
      cases e
      cases ho
    · rw [List.getElem?_set_ne (Ne.symm hj)] at e ⊢
      obtain ⟨w, h1, h2⟩ := k.hva j d' e
      exact ⟨w, h1, h2.move mv⟩
  · by_cases hj : j = i
    · subst hj
      rw [List.getElem?_set_self hl] at e
      cases e
      cases ho
    · rw [List.getElem?_set_ne (Ne.symm hj)] at e ⊢
      obtain ⟨w, h1, h2⟩ := k.hvn j d' e
      exact ⟨w, h1, h2.move mvN⟩
  · by_cases hj : j = i
    · subst hj
      rw [List.getElem?_set_self hl] at e
      cases e
      exact ⟨p, by unfold putOw; rw [if_pos rfl], by rw [List.getElem?_set_self (by rw [k.hlen]; exact hl)], hp.move (fun o e _ => e) mv⟩
    · rw [List.getElem?_set_ne (Ne.symm hj)] at e ⊢
      obtain ⟨a, h1, h2, h3⟩ := k.hob j s' e f
      exact ⟨a, by unfold putOw; rw [if_neg hj]; exact h1, h2, h3.move (fun o e _ => e) mv⟩
  · unfold putOw at e
    split at e
    · rename_i hj
      subst hj
      exact ⟨sl, by rw [List.getElem?_set_self hl], ho⟩
    · rename_i hj
      rw [List.getElem?_set_ne (Ne.symm hj)]
      exact k.hdom j a e
  · unfold putOw at e1 e2
    split at e1
    · rename_i hj
      split at e2
      · rename_i hl'
        exact hj.trans hl'.symm
      · cases e1
        exact absurd e2 (nw l)
    · split at e2
      · cases e2
        exact absurd e1 (nw j)
      · exact k.hinj j l a e1 e2
  · unfold putOw at e
    split at e
    · cases e
      exact ⟨nb, no⟩
    · exact ⟨fun z => (k.hloc j a e hj).1 (.inl z), (k.hloc j a e hj).2⟩
/-- a slot gets a list of its own -/
theorem Ok.put (k : Ok P (insB Bf p) ow en σ H) {i : Nat} (hi : i ∉ P) (hl : i < en.length) (nb : ¬ Bf.bl p) (no : ¬ Bf.od p) (nw : ∀ j, ow j ≠ some p) (hp : H p = some (.lst xs)) (r : RpL H (blk (insB Bf p) ow) ds xs) :
    Ok P Bf (putOw ow i p) (en.set i (.ow ds)) (σ.set i (some (.ref p))) H := k.putO rfl hi hl nb no nw ⟨xs, hp, r⟩
/-- the tables stay good where something else is written -/
theorem tabs_upd {T : List (Addr × Str)} {H : Hp} {a : Addr} {o0 o' : HO} (t : LamX.Tabs T H) (h0 : H a = some o0) (nt : NT o0) (ne : ∀ φ, o0 ≠ .ext φ) : LamX.Tabs T (upd H a o') := fun q hq => by
  obtain ⟨ps, t1, t2, t3⟩ := t q hq
  have n1 : q.1 ≠ a := fun z => by
    rw [z, h0] at t1
    exact nt ps (Option.some.inj t1)
  refine ⟨ps, by rw [upd_ne n1]; exact t1, t2, fun pos cv hc => ?_⟩
  obtain ⟨c, e1, e2⟩ := t3 pos cv hc
  refine ⟨c, e1, ?_⟩
  rw [upd_ne fun z => by
    rw [z, h0] at e2
    exact ne _ (Option.some.inj e2)]
  exact e2
/-- an object of one's own is written -/
theorem Ok.wrOk (k : Ok P Bf ow en σ H) {i : Nat} {a : Addr} {sl : Sl} {o' : HO} (e : ow i = some a) (ho : isOwn sl = true) (nto : NT o') (r : OwnAt (upd H a o') (blk Bf ow) a sl) : Ok P Bf ow (en.set i sl) σ (upd H a o') ∧ ((∀ o u, H a ≠ some (.frz o u)) → Rel P H ow (upd H a o') ow) := by
  have ha : blk Bf ow a := .inr ⟨i, e⟩
  have mv : ∀ b o, H b = some o → NT o → ¬ blk Bf ow b → upd H a o' b = some o ∧ ¬ blk Bf ow b := fun b o h t n => ⟨by rw [upd_ne fun z => n (by rw [z]; exact ha)]; exact h, n⟩
  have sm : ∀ b, H b ≠ none → upd H a o' b ≠ none := fun b h => by
    by_cases hb : b = a
    · rw [hb, upd_same]
      exact fun z => nomatch z
    · rw [upd_ne hb]
      exact h
  obtain ⟨s0, e0, f0, g2, g3⟩ := k.hat e
  obtain ⟨o0, h0, n0, x0, _⟩ := g3.obj
  obtain ⟨o1, h1, _, _, t1⟩ := r.obj
  rw [upd_same] at h1
  cases h1
  have smn : ∀ b, nt H b → nt (upd H a o') b := fun b ⟨u, e, n⟩ => by
    by_cases hb : b = a
    · rw [hb]
      exact ⟨o', upd_same, t1⟩
    · exact ⟨u, by rw [upd_ne hb]; exact e, n⟩
  have hl : i < en.length := (List.getElem?_eq_some_iff.mp e0).1
  have mvN : ∀ b o, H b = some o → NT o → ¬ blkN Bf ow b → upd H a o' b = some o ∧ ¬ blkN Bf ow b := fun b o h t n => ⟨(mv b o h t fun z => n (.inl z)).1, n⟩
  refine ⟨⟨by simp [k.hlen], fun j d' e' => ?_, fun j d' e' => ?_, fun j s' e' f => ?_, fun j b e' => ?_, k.hinj, fun b h => smn b (k.hbf b h), fun b h => sm b (k.hod b h), k.hloc, tabs_upd k.htab h0 n0 x0⟩, fun hz => ⟨fun b o h t n => ⟨by rw [upd_ne fun z => n i (by rw [z]; exact e)]; exact h, n⟩, sm, fun _ _ => rfl, fun _ _ z => z, fun b o u h => by rw [upd_ne fun z => hz o u (by rw [← z]; exact h)]; exact h, smn⟩⟩
  · by_cases hj : j = i
    · subst hj
      rw [List.getElem?_set_self hl] at e'
      cases e'
      cases ho
    · rw [List.getElem?_set_ne (Ne.symm hj)] at e'
      obtain ⟨w, h1, h2⟩ := k.hva j d' e'
      exact ⟨w, h1, h2.move mv⟩
  · by_cases hj : j = i
    · subst hj
      rw [List.getElem?_set_self hl] at e'
      cases e'
      cases ho
    · rw [List.getElem?_set_ne (Ne.symm hj)] at e'
      obtain ⟨w, h1, h2⟩ := k.hvn j d' e'
      exact ⟨w, h1, h2.move mvN⟩
  · by_cases hj : j = i
    · subst hj
      rw [List.getElem?_set_self hl] at e'
      cases e'
      exact ⟨a, e, g2, r⟩
    · rw [List.getElem?_set_ne (Ne.symm hj)] at e'
      obtain ⟨b, h1, h2, h3⟩ := k.hob j s' e' f
      have nb : b ≠ a := fun z => hj (k.hinj j i a (by rw [← z]; exact h1) e)
      exact ⟨b, h1, h2, h3.move (fun o e _ => by rw [upd_ne nb]; exact e) mv⟩
  · by_cases hj : j = i
    · subst hj
      exact ⟨sl, List.getElem?_set_self hl, ho⟩
    · rw [List.getElem?_set_ne (Ne.symm hj)]
      exact k.hdom j b e'
theorem Ok.wrO (k : Ok P Bf ow en σ H) {i : Nat} {a : Addr} {sl : Sl} {o' : HO} (e : ow i = some a) (hz : ∀ o u, H a ≠ some (.frz o u)) (ho : isOwn sl = true) (nto : NT o') (r : OwnAt (upd H a o') (blk Bf ow) a sl) : Ok P Bf ow (en.set i sl) σ (upd H a o') ∧ Rel P H ow (upd H a o') ow :=
  let ⟨h1, h2⟩ := k.wrOk e ho nto r
  ⟨h1, h2 hz⟩
/-- a list of one's own is written -/
theorem Ok.wr (k : Ok P Bf ow en σ H) {i : Nat} {a : Addr} {zs : List V} (e : ow i = some a) (hz : H a = some (.lst zs)) (r : RpL H (blk Bf ow) ds xs) : Ok P Bf ow (en.set i (.ow ds)) σ (upd H a (.lst xs)) ∧ Rel P H ow (upd H a (.lst xs)) ow :=
  k.wrO e (fun o u z => by rw [hz] at z; cases z) rfl (fun _ z => nomatch z) ⟨xs, upd_same, r.move fun b o h t n => ⟨by rw [upd_ne fun z => n (by rw [z]; exact .inr ⟨i, e⟩)]; exact h, n⟩⟩
end

section
variable {X : Cx} {P : Pl} {a b e : Expr} {es : List Expr} {fa fb : FE} {ga : FA} {pos apos cpos : Pos}
/-! ### expressions that give a new list -/
abbrev FL := En → Option (List D × En)
def tvF (P : Pl) (f : FL) : TE := fun σ H Q => ∃ Bf ow en, Ok P Bf ow en σ H ∧ ∃ ds en', f en = some (ds, en') ∧
  ∀ p xs ow' H', Ok P (insB Bf p) ow' en' σ H' → Rel P H ow H' ow' → ¬ Bf.bl p → ¬ Bf.od p → (∀ i, ow' i ≠ some p) → H p = none → H' p = some (.lst xs) → RpL H' (blk (insB Bf p) ow') ds xs → Q (.ref p) H'
def VF (X : Cx) (P : Pl) (e : Expr) (f : FL) : Prop := PE X e (tvF P f)
def eNew (f : FL) : FE := fun en => match f en with
  | some (ds, en1) => some (.list ds, en1)
  | none => none
theorem new_nb {Bf : Bk} {ow : Nat → Option Addr} {p : Addr} (h1 : ¬ Bf.bl p) (h2 : ∀ i, ow i ≠ some p) : ¬ blk Bf ow p := fun z => z.elim h1 fun ⟨i, z⟩ => h2 i z
theorem ve_new {f : FL} (h : VF X P e f) : VE X P e (eNew f) := PE.weak h fun σ H Q h => by
  obtain ⟨Bf, ow, en, k, d, en', hf, q⟩ := h
  unfold eNew at hf
  split at hf <;> first | cases hf | skip
  rename_i ds en1 h1
  exact ⟨Bf, ow, en, k, _, _, h1, fun p xs ow1 H1 k1 r1 b1 b2 b3 b4 hp rs => q _ ow1 H1 k1.unins r1 (.lst (new_nb b1 b3) (.inl hp) rs.unins)⟩
/-- at a new address, over what stands -/
theorem fresh_of {Bf : Bk} {ow ow1 : Nat → Option Addr} {en1 : En} {σ : L2.St} {H H1 : Hp} {p : Addr} {ds : List D} {xs : List V} {f : V → Hp → Prop} (k : Ok P Bf ow1 en1 σ H1) (r : Rel P H ow H1 ow1) (hp : H1 p = none) (rs : RpL H1 (blk Bf ow1) ds xs)
    (q : ∀ p xs ow' H', Ok P (insB Bf p) ow' en1 σ H' → Rel P H ow H' ow' → ¬ Bf.bl p → ¬ Bf.od p → (∀ i, ow' i ≠ some p) → H p = none → H' p = some (.lst xs) → RpL H' (blk (insB Bf p) ow') ds xs → f (.ref p) H') : f (.ref p) (upd H1 p (.lst xs)) := by
  have np := k.nb hp
  have h0 : H p = none := by
    cases e : H p with
    | none => rfl
    | some o => exact absurd hp (r.hsome p (by rw [e]; exact fun z => nomatch z))
  exact q p xs ow1 _ (k.avoid hp) (r.trans (Ext.upd hp).rel) (fun z => np (.inl z)) (fun z => k.hod p z hp) (fun i z => np (.inr ⟨i, z⟩)) h0 upd_same (rs.avoid hp (.upd hp))
def lLst (f : FA) : FL := fun en => match f en with
  | some (ds, en1) => if ds.length ≤ sizeLine then some (ds, en1) else none
  | none => none
theorem vf_lst (h : VA X P es ga) : VF X P (.List es pos) (lLst ga) := PE.weak (pe_lst h) fun σ H Q h => by
  obtain ⟨Bf, ow, en, k, d, en', hf, q⟩ := h
  unfold lLst at hf
  split at hf <;> first | cases hf | skip
  rename_i ds en1 h1
  split at hf <;> first | cases hf | skip
  rename_i hz
  exact ⟨Bf, ow, en, k, _, _, h1, fun vs ow1 H1 k1 r1 p1 => ⟨by rw [← p1.length]; exact hz, fun p hp => fresh_of (f := Q) k1 r1 hp p1 q⟩⟩
/-- a call of a built-in that gives a new list -/
def CaL (r : List V → Hp → VK → Prop) (g : List D → Option (List D)) : Prop := ∀ (H : Hp) (B : Addr → Prop) (ds es : List D) (vs : List V) (Q : VK), g ds = some es → RpL H B ds vs →
  (∀ p xs, H p = none → RpL H B es xs → Q (.ref p) (upd H p (.lst xs))) → r vs H Q
def lCall (g : List D → Option (List D)) (f : FA) : FL := fun en => match f en with
  | some (ds, en1) => match g ds with
    | some d => some (d, en1)
    | none => none
  | none => none
theorem tvF_call {r : List V → Hp → VK → Prop} {g : List D → Option (List D)} (hg : CaL r g) (σ : L2.St) (H : Hp) (Q : VK) (h : tvF P (lCall g ga) σ H Q) : tCB r (tvA P ga) σ H Q := by
  obtain ⟨Bf, ow, en, k, d, en', hf, q⟩ := h
  unfold lCall at hf
  split at hf <;> first | cases hf | skip
  rename_i ds en1 h1
  split at hf <;> first | cases hf | skip
  rename_i d' h2
  exact ⟨Bf, ow, en, k, _, _, h1, fun vs ow1 H1 k1 r1 p1 => hg H1 (blk Bf ow1) ds _ vs Q h2 p1 fun p xs hp rs => fresh_of (f := Q) k1 r1 hp rs q⟩
theorem vf_callB {id : String} {x : Str} {p : Pos} {r : List V → Hp → VK → Prop} {g : List D → Option (List D)} (hc : CallR X (.builtin id) r) (hgv : CaL r g) (hg : Gl X x) (hm : X.mg x = none) (hv : bootBuiltins x = some (.builtin id)) (ha : VA X P (e :: es) ga)
    (hn : x ≠ "__name__" := by decide) (hdb : (x == ("__debug__" : Str)) = false := by decide)
    (he : starEach (e :: es) X.env = (false, eval e X.env) :: starEach es X.env := by rfl) (hpl : (backTo pos (starEach es X.env)).any (·.1) = false := by rfl) : VF X P (.Call (.Name x p) (e :: es) [] pos) (lCall g ga) :=
  PE.weak (pe_callB hc hg hm hv ha hn hdb he hpl) (tvF_call hgv)
theorem vf_callTy {T : String} {x : Str} {p : Pos} {r : List V → Hp → VK → Prop} {g : List D → Option (List D)} (hc : CallR X (.type T) r) (hgv : CaL r g) (hg : Gl X x) (hm : X.mg x = none) (hv : bootBuiltins x = some (.type T)) (ha : VA X P (e :: es) ga)
    (hn : x ≠ "__name__" := by decide) (hdb : (x == ("__debug__" : Str)) = false := by decide)
    (he : starEach (e :: es) X.env = (false, eval e X.env) :: starEach es X.env := by rfl) (hpl : (backTo pos (starEach es X.env)).any (·.1) = false := by rfl) : VF X P (.Call (.Name x p) (e :: es) [] pos) (lCall g ga) :=
  PE.weak (pe_callTy hc hg hm hv ha hn hdb he hpl) (tvF_call hgv)

/-! ### a slot gets a new list of its own -/
def sOwn (i : Nat) (f : FL) : FS := fun en => match f en with
  | some (ds, en1) => if i < en1.length then some (.nx (en1.set i (.ow ds))) else none
  | none => none
theorem put_rel {ow ow1 : Nat → Option Addr} {H H1 : Hp} {p : Addr} {i : Nat} (hP : i ∉ P) (r : Rel P H ow H1 ow1) (hp : H p = none) : RelS P H ow H1 (putOw ow1 i p) :=
  ⟨fun b o e t n => ⟨(r.hkeep b o e t n).1, fun j z => by
    unfold putOw at z
    split at z
    · cases z
      rw [hp] at e
      cases e
    · exact (r.hkeep b o e t n).2 j z⟩, r.hsome, fun j hj => by
      unfold putOw
      rw [if_neg fun z => hP (by rw [← z]; exact hj)]
      exact r.hpin j hj, r.hfrz, r.hnt⟩
theorem vs_own {f : FL} {i : Nat} {x : Str} {pos' : Pos} (hN : X.N.Nodup) (hi : X.N[i]? = some x) (hx : Loc X.env.scope x := by first | exact .inl rfl | exact .inr rfl) (hP : i ∉ P) (he : VF X P e f) (hs : swapsWith e (some (.Name x pos')) pos.line X.env = pure false := by rfl)
    (hf : X.fn x = true ∨ X.env.scope.names.lookup x = some .local := by first | exact .inl rfl | exact .inr rfl | assumption) : VS X P (.Assign [.Name x pos'] e pos) (sOwn i f) :=
  PS.weak (ps_set hN hi hx he hs hf) fun Dn σ H h => by
    obtain ⟨Bf, ow, en, k, o, hf, q⟩ := h
    unfold sOwn at hf
    split at hf <;> first | cases hf | skip
    rename_i ds en1 h1
    split at hf <;> first | cases hf | skip
    rename_i hl
    exact ⟨Bf, ow, en, k, _, _, h1, fun p xs ow1 H1 k1 r1 b1 b2 b3 b4 hp rs => q _ _ _ (k1.put hP hl b1 b2 b3 hp rs) (put_rel hP r1 b4)⟩

/-! ### a list of one's own: append, store, item, length -/
def isOw : Option Sl → Bool
  | some (.ow _) => true
  | _ => false
theorem isOw_of {o : Option Sl} (h : isOw o = true) : ∃ ds, o = some (.ow ds) := by
  unfold isOw at h
  split at h
  · exact ⟨_, rfl⟩
  · cases h
def sApp (i : Nat) (f : FE) : FS := fun en => if isOw en[i]? then (match f en with
  | some (d, en1) => match en1[i]? with
    | some (.ow ds) => if ds.length < sizeLine then some (.nx (en1.set i (.ow (ds ++ [d])))) else none
    | _ => none
  | none => none) else none
/-- a slot whose list is one's own behind an expression was one's own ahead, at the same address -/
theorem own_back {Bf : Bk} {ow ow1 : Nat → Option Addr} {en en1 : En} {σ σ1 : L2.St} {H H1 : Hp} {i : Nat} {ds1 : List D} (k : Ok P Bf ow en σ H) (k1 : Ok P Bf ow1 en1 σ1 H1) (r : Rel P H ow H1 ow1) (e : en1[i]? = some (.ow ds1)) :
    ∃ a xs1, ow i = some a ∧ ow1 i = some a ∧ H1 a = some (.lst xs1) ∧ RpL H1 (blk Bf ow1) ds1 xs1 := by
  obtain ⟨a, xs1, h1, h2, h3, h4⟩ := k1.hown i ds1 e
  exact ⟨a, xs1, r.hsub i a h1, h1, h3, h4⟩
theorem dc_back {Bf : Bk} {ow ow1 : Nat → Option Addr} {en en1 : En} {σ σ1 : L2.St} {H H1 : Hp} {i : Nat} {t1 : DT} {ds1 : DKV} (k : Ok P Bf ow en σ H) (k1 : Ok P Bf ow1 en1 σ1 H1) (r : Rel P H ow H1 ow1) (e : en1[i]? = some (.dc t1 ds1)) :
    ∃ a, ow i = some a ∧ ow1 i = some a ∧ DcAt H1 (blk Bf ow1) a t1 ds1 := by
  obtain ⟨a, h1, h2, h3⟩ := k1.hdc i t1 ds1 e
  exact ⟨a, r.hsub i a h1, h1, h3⟩
theorem vs_append {i : Nat} {x : Str} {p' : Pos} (hN : X.N[i]? = some x) (hv : Vis X.env.scope x := by first | exact .inl rfl | exact .inr (.inl rfl) | exact .inr (.inr rfl)) (he : VE X P e fa)
    (hbase : attributeBase (.Name x p') "append" X.env (eval (.Name x p') X.env) = eval (.Name x p') X.env := by rfl)
    (hfew : ((backTo cpos (starEach [e] X.env)).all (fun x => !x.1) && (backToKw cpos (keywordEach [] X.env)).all (fun x => x.1.isSome)
      && decide ([e].length + ([] : List Keyword).length + (if ([] : List Keyword).isEmpty then 0 else 1) < 30)) = true := by rfl)
    (hline : (apos.endLine == cpos.line) = true := by rfl) (hst : starEach [e] X.env = (false, eval e X.env) :: starEach [] X.env := by rfl) (hplain : (backTo cpos (starEach [] X.env)).any (·.1) = false := by rfl)
    (hd : (x == ("__debug__" : Str)) = false := by decide) (hcd : (x == ("__classdict__" : Str)) = false := by decide)
    (hs : swapsWith (.Call (.Attribute (.Name x p') "append" apos) [e] [] cpos) none pos.line X.env = pure false := by rfl) :
    VS X P (.Expr (.Call (.Attribute (.Name x p') "append" apos) [e] [] cpos) pos) (sApp i fa) :=
  PS.weak (ps_expr (pe_bm PySem.F.plainAttrs_list PySem.F.slot_list_append PySem.F.type_list_append mt_append (pe_var hN hv hd hcd) (pa_cons he pa_nil hst) hbase hfew hline hst hplain) hs) fun Dn σ H h => by
    obtain ⟨Bf, ow, en, k, o, hf, q⟩ := h
    unfold sApp at hf
    split at hf <;> first | cases hf | skip
    rename_i h0
    obtain ⟨ds0, e0⟩ := isOw_of h0
    obtain ⟨a, xs0, g1, g2, g3, g4⟩ := k.hown i ds0 e0
    split at hf <;> first | cases hf | skip
    rename_i d en1 h1
    split at hf <;> first | cases hf | skip
    rename_i ds h2
    split at hf <;> first | cases hf | skip
    rename_i hz
    refine ⟨_, g2, .inl ⟨rfl, _, SqL.of g3⟩, Bf, ow, en, k, d, en1, h1, fun v ow1 H1 k1 r1 p1 => ?_⟩
    obtain ⟨a', xs1, w1, w2, w3, w4⟩ := own_back k k1 r1 h2
    rw [g1] at w1
    cases w1
    obtain ⟨k2, r2⟩ := k1.wr w2 w3 (w4.append (.cons p1 .nil))
    exact ⟨a, xs1, v, rfl, rfl, w3, by rw [← w4.length]; exact hz, q _ _ _ k2 (r1.trans r2).s⟩
/-- x[i] = e -/
def sPut (i : Nat) (f g : FE) : FS := fun en => match f en with
  | some (d, en1) => if isOw en1[i]? then (match g en1 with
    | some (.int z, en2) => match en2[i]? with
      | some (.ow ds) => match ixN ds.length z with
        | some j => some (.nx (en2.set i (.ow (ds.set j d))))
        | none => none
      | _ => none
    | _ => none) else none
  | none => none
theorem vs_put {i : Nat} {x : Str} {p' : Pos} {ix : Expr} (hN : X.N[i]? = some x) (hv : Vis X.env.scope x := by first | exact .inl rfl | exact .inr (.inl rfl) | exact .inr (.inr rfl)) (hx : VE X P ix fb) (he : VE X P e fa)
    (ha : ∀ v, assign (.Subscript (.Name x p') ix apos) X.env v = (do
      let ov ← holding [v] (eval (.Name x p') X.env)
      let iv ← holding [v, ov] (eval ix X.env)
      standAt apos
      holding [v, ov, iv] (setItem ov iv v)
      release [v, ov, iv] []) := by intro _; rfl)
    (hs : swapsWithSole [.Subscript (.Name x p') ix apos] e pos.line X.env = pure false := by rfl) (hw : swappedStores [.Subscript (.Name x p') ix apos] e X.env = pure none := by rfl)
    (h1 : (assignEach [.Subscript (.Name x p') ix apos] X.env).map (·.2) = [assign (.Subscript (.Name x p') ix apos) X.env] := by rfl)
    (hd : (x == ("__debug__" : Str)) = false := by decide) (hcd : (x == ("__classdict__" : Str)) = false := by decide) :
    VS X P (.Assign [.Subscript (.Name x p') ix apos] e pos) (sPut i fa fb) :=
  PS.weak (ps_asg he (pg_sub (pe_var hN hv hd hcd) hx set_list ha) hs hw h1) fun Dn σ H h => by
    obtain ⟨Bf, ow, en, k, o, hf, q⟩ := h
    unfold sPut at hf
    split at hf <;> first | cases hf | skip
    rename_i d en1 h1
    split at hf <;> first | cases hf | skip
    rename_i h0
    obtain ⟨ds0, e0⟩ := isOw_of h0
    refine ⟨Bf, ow, en, k, d, en1, h1, fun v ow1 H1 k1 r1 p1 => ?_⟩
    obtain ⟨a, xs0, g1, g2, g3, g4⟩ := k1.hown i ds0 e0
    split at hf <;> first | cases hf | skip
    rename_i z en2 h2
    split at hf <;> first | cases hf | skip
    rename_i ds h3
    split at hf <;> first | cases hf | skip
    rename_i j hj
    refine ⟨_, g2, Bf, ow1, en1, k1, _, en2, h2, fun u ow2 H2 k2 r2 p2 => ?_⟩
    cases p2
    obtain ⟨a', xs1, w1, w2, w3, w4⟩ := own_back k1 k2 r2 h3
    rw [g1] at w1
    cases w1
    obtain ⟨k3, r3⟩ := k2.wr w2 w3 (w4.set (r2.rp p1) j)
    exact ⟨a, xs1, z, j, rfl, rfl, w3, by rw [← w4.length]; exact hj, q _ _ _ k3 ((r1.trans r2).trans r3).s⟩
/-- x[i] -/
def eVarV (i : Nat) : FE := fun en => match en[i]? with
  | some (.va d) => some (d, en)
  | _ => none
def eGet (i : Nat) (g : FE) : FE := fun en => if isOw en[i]? then (match g en with
  | some (.int z, en1) => match en1[i]? with
    | some (.ow ds) => match atI ds z with
      | some d => some (d, en1)
      | none => none
    | _ => none
  | _ => none) else eOp gIx (eVarV i) g en
theorem ve_get {i : Nat} {x : Str} {p' : Pos} {ix : Expr} (hN : X.N[i]? = some x) (hv : Vis X.env.scope x := by first | exact .inl rfl | exact .inr (.inl rfl) | exact .inr (.inr rfl)) (hx : VE X P ix fb) (hs : PlainIx ix)
    (hd : (x == ("__debug__" : Str)) = false := by decide) (hcd : (x == ("__classdict__" : Str)) = false := by decide) : VE X P (.Subscript (.Name x p') ix pos) (eGet i fb) :=
  PE.weak (pe_ix ix_seq (pe_var hN hv hd hcd) hx hs) fun σ H Q h => by
    obtain ⟨Bf, ow, en, k, d, en', hf, q⟩ := h
    unfold eGet at hf
    split at hf
    · rename_i h0
      obtain ⟨ds0, e0⟩ := isOw_of h0
      obtain ⟨a, xs0, g1, g2, g3, g4⟩ := k.hown i ds0 e0
      split at hf <;> first | cases hf | skip
      rename_i z en1 h1
      split at hf <;> first | cases hf | skip
      rename_i ds h2
      split at hf <;> first | cases hf | skip
      rename_i d' h3
      refine ⟨_, g2, Bf, ow, en, k, _, _, h1, fun v ow1 H1 k1 r1 p1 => ?_⟩
      cases p1
      obtain ⟨a', xs1, w1, w2, w3, w4⟩ := own_back k k1 r1 h2
      rw [g1] at w1
      cases w1
      obtain ⟨v, w5, w6⟩ := w4.atI h3
      exact .inl ⟨a, xs1, z, v, rfl, rfl, SqL.of w3, w5, q v ow1 H1 k1 r1 w6⟩
    · unfold eOp eVarV at hf
      split at hf <;> first | cases hf | skip
      rename_i x1 en0 h1
      split at h1 <;> first | cases h1 | skip
      rename_i d0 e0
      split at hf <;> first | cases hf | skip
      rename_i y en2 h2
      split at hf <;> first | cases hf | skip
      rename_i z h3
      obtain ⟨v, g1, g2⟩ := k.hva i _ e0
      refine ⟨v, g1, Bf, ow, en, k, _, _, h2, fun v2 ow1 H1 k1 r1 p1 => ?_⟩
      exact ov_ix H1 (blk Bf ow1) _ y d v v2 Q h3 (r1.rp g2) p1 (fun p hp => k1.nb hp) fun v H' ex p => q v ow1 H' (k1.ext ex) (r1.trans ex.rel) p
/-- len(x) -/
def eLenO (i : Nat) : FE := fun en => match en[i]? with
  | some (.ow ds) => some (.int ds.length, en)
  | _ => none
theorem ve_lenO {i : Nat} {x : Str} {p p' : Pos} (hN : X.N[i]? = some x) (hv : Vis X.env.scope x := by first | exact .inl rfl | exact .inr (.inl rfl) | exact .inr (.inr rfl)) (hg : Gl X "len") (hm : X.mg "len" = none)
    (hd : (x == ("__debug__" : Str)) = false := by decide) (hcd : (x == ("__classdict__" : Str)) = false := by decide)
    (hst : starEach [.Name x p'] X.env = (false, eval (.Name x p') X.env) :: starEach [] X.env := by rfl) (hpl : (backTo pos (starEach [] X.env)).any (·.1) = false := by rfl) : VE X P (.Call (.Name "len" p) [.Name x p'] [] pos) (eLenO i) :=
  PE.weak (pe_callB call_len_seq hg hm PySem.boot_len (pa_cons (pe_var hN hv hd hcd) pa_nil hst) (by decide) (by decide) hst hpl) fun σ H Q h => by
    obtain ⟨Bf, ow, en, k, d, en', hf, q⟩ := h
    unfold eLenO at hf
    split at hf <;> first | cases hf | skip
    rename_i ds e0
    obtain ⟨a, xs0, g1, g2, g3, g4⟩ := k.hown i ds e0
    exact ⟨_, g2, a, xs0, rfl, .inl (SqL.of g3), q _ ow H k .refl (by rw [← g4.length]; exact .int _)⟩
/-- a list of one's own, given away new -/
def lVar (P : List Nat) (i : Nat) : FL := fun en => match en[i]? with
  | some (.ow ds) => if i ∈ P then none else some (ds, en.set i .un)
  | _ => none
end
end VL

namespace VL
open PySem PySem.Spec
open PyProof.Rows L2

section
variable {X : Cx} {P : Pl} {a b e : Expr} {es : List Expr} {fa fb : FE} {ga : FA} {pos apos cpos : Pos}
/-! ### returns of new lists -/
def sRetF (f : FL) : FS := fun en => match f en with
  | some (ds, en1) => some (.rf ds en1)
  | none => none
theorem vs_retF {f : FL} (he : VF X P e f) : VS X P (.Return (some e) pos) (sRetF f) := PS.weak (ps_ret he) fun Dn σ H h => by
  obtain ⟨Bf, ow, en, k, o, hf, q⟩ := h
  unfold sRetF at hf
  split at hf <;> first | cases hf | skip
  rename_i d en1 h1
  exact ⟨Bf, ow, en, k, _, _, h1, fun p xs ow1 H1 k1 r1 b1 b2 b3 b4 hp rs => q ow1 σ H1 p xs k1 r1.s b1 b2 b3 hp rs⟩
theorem Ok.freeO {Bf : Bk} {ow : Nat → Option Addr} {en : En} {σ : L2.St} {H : Hp} (k : Ok P Bf ow en σ H) {i : Nat} {sl : Sl} (hi : i ∉ P) (e : en[i]? = some sl) (ho : isOwn sl = true) :
    ∃ a, σ[i]? = some (some (.ref a)) ∧ Ok P (insB Bf a) (dropOw ow i) (en.set i .un) σ H ∧ ¬ Bf.bl a ∧ ¬ Bf.od a ∧ (∀ j, dropOw ow i j ≠ some a) ∧ OwnAt H (blk (insB Bf a) (dropOw ow i)) a sl := by
  obtain ⟨a, h1, h2, h3⟩ := k.hob i sl e ho
  have na : ∀ j, dropOw ow i j ≠ some a := fun j z => by
    have := k.hinj j i a (dropOw_sub _ _ z) h1
    subst this
    unfold dropOw at z
    rw [if_pos rfl] at z
    cases z
  have mv : ∀ b o, H b = some o → NT o → ¬ blk Bf ow b → H b = some o ∧ ¬ blk (insB Bf a) (dropOw ow i) b := fun b o e t n => ⟨e, fun z => by
    rcases insB_blk z with z | z
    · exact n (dropOw_blk z)
    · subst z
      exact n (.inr ⟨i, h1⟩)⟩
  have mvN : ∀ b o, H b = some o → NT o → ¬ blkN Bf ow b → H b = some o ∧ ¬ blkN (insB Bf a) (dropOw ow i) b := fun b o e t n => ⟨e, fun z => by
    rcases insB_blkN z with z | z
    · exact n (z.elim (fun z => .inl (dropOw_blk z)) .inr)
    · subst z
      exact n (.inl (.inr ⟨i, h1⟩))⟩
  refine ⟨a, h2, ⟨by simp [k.hlen], fun j d' e' => ?_, fun j d' e' => ?_, fun j s' e' f => ?_, fun j b e' => ?_, fun j l b e1 e2 => k.hinj j l b (dropOw_sub _ _ e1) (dropOw_sub _ _ e2), fun b h => ?_, k.hod, fun j b e' hj => ?_, k.htab⟩, (k.hloc i a h1 hi).1, (k.hloc i a h1 hi).2, na, h3.move (fun o e _ => e) mv⟩
  · by_cases hj : j = i
    · subst hj
      rw [List.getElem?_set_self (List.getElem?_eq_some_iff.mp e).1] at e'
      cases e'
    · rw [List.getElem?_set_ne (Ne.symm hj)] at e'
      obtain ⟨w, h1, h2⟩ := k.hva j d' e'
      exact ⟨w, h1, h2.move mv⟩
  · by_cases hj : j = i
    · subst hj
      rw [List.getElem?_set_self (List.getElem?_eq_some_iff.mp e).1] at e'
      cases e'
    · rw [List.getElem?_set_ne (Ne.symm hj)] at e'
      obtain ⟨w, h1, h2⟩ := k.hvn j d' e'
      exact ⟨w, h1, h2.move mvN⟩
  · by_cases hj : j = i
    · subst hj
      rw [List.getElem?_set_self (List.getElem?_eq_some_iff.mp e).1] at e'
      cases e'
      cases f
    · rw [List.getElem?_set_ne (Ne.symm hj)] at e'
      obtain ⟨b, g1, g2, g3⟩ := k.hob j s' e' f
      exact ⟨b, by unfold dropOw; rw [if_neg hj]; exact g1, g2, g3.move (fun o e _ => e) mv⟩
  · have e2 := dropOw_sub _ _ e'
    unfold dropOw at e'
    split at e'
    · cases e'
    · rename_i hj
      rw [List.getElem?_set_ne (Ne.symm hj)]
      exact k.hdom j b e2
  · rcases h with h | h
    · exact k.hbf b h
    · subst h
      exact h3.nt
  · refine ⟨fun z => ?_, (k.hloc j b (dropOw_sub _ _ e') hj).2⟩
    rcases z with z | z
    · exact (k.hloc j b (dropOw_sub _ _ e') hj).1 z
    · subst z
      exact na j e'
theorem Ok.free {Bf : Bk} {ow : Nat → Option Addr} {en : En} {σ : L2.St} {H : Hp} (k : Ok P Bf ow en σ H) {i : Nat} {ds : List D} (hi : i ∉ P) (e : en[i]? = some (.ow ds)) :
    ∃ a xs, σ[i]? = some (some (.ref a)) ∧ Ok P (insB Bf a) (dropOw ow i) (en.set i .un) σ H ∧ ¬ Bf.bl a ∧ ¬ Bf.od a ∧ (∀ j, dropOw ow i j ≠ some a) ∧ H a = some (.lst xs) ∧ RpL H (blk (insB Bf a) (dropOw ow i)) ds xs := by
  obtain ⟨a, h1, h2, h3, h4, h5, xs, h6, h7⟩ := k.freeO hi e rfl
  exact ⟨a, xs, h1, h2, h3, h4, h5, h6, h7⟩
def sRetO (P : List Nat) (i : Nat) : FS := fun en => match en[i]? with
  | some (.ow ds) => if i ∈ P then none else some (.rf ds (en.set i .un))
  | _ => none
theorem vs_retO {i : Nat} {x : Str} {p : Pos} (hN : X.N[i]? = some x) (hv : Vis X.env.scope x := by first | exact .inl rfl | exact .inr (.inl rfl) | exact .inr (.inr rfl)) (hd : (x == ("__debug__" : Str)) = false := by decide) (hcd : (x == ("__classdict__" : Str)) = false := by decide) : VS X P (.Return (some (.Name x p)) pos) (sRetO P.ps i) :=
  PS.weak (ps_ret (pe_var hN hv hd hcd)) fun Dn σ H h => by
    obtain ⟨Bf, ow, en, k, o, hf, q⟩ := h
    unfold sRetO at hf
    split at hf <;> first | cases hf | skip
    rename_i ds e0
    split at hf <;> first | cases hf | skip
    rename_i hi
    obtain ⟨a, xs, g1, k2, b1, b2, b3, hp, rs⟩ := k.free hi e0
    exact ⟨_, g1, q _ σ H a xs k2 (dropOw_rel hi).s b1 b2 b3 hp rs⟩
end

/-! ### functions -/
structure Aft (P : Pl) (Bf : Bk) (ow : Nat → Option Addr) (as' : En) (H H' : Hp) : Prop where
  own : ∀ i, i ∈ P → ∀ a, ow i = some a → ∃ s, as'[i]? = some s ∧ isOwn s = true ∧ OwnAt H' (blk Bf ow) a s
  keep : ∀ b o, H b = some o → NT o → (∀ i, ow i ≠ some b) → H' b = some o
  dom : ∀ b, H b ≠ none → H' b ≠ none
  tab : LamX.Tabs P.tb H'
  frz : ∀ b o u, H b = some (.frz o u) → H' b = some (.frz o u)
  ntk : ∀ b, nt H b → nt H' b
abbrev FF := En → Option (D × En)
abbrev FFL := En → Option (List D × En)
def spV (P : Pl) (n : Nat) (F : FF) : Sp := fun vs H Q _ => ∃ Bf ow as, as.length = n ∧ Ok P Bf ow as (vs.map some) H ∧ (∀ i a, ow i = some a → i ∈ P) ∧ (∀ (i : Nat) (d : D), as[i]? ≠ some (Sl.vn d)) ∧ ∃ d as', F as = some (d, as') ∧
  ∀ v H', Aft P Bf ow as' H H' → Rp H' (blk Bf ow) d v → Q v H'
def spL (P : Pl) (n : Nat) (F : FFL) : Sp := fun vs H Q _ => ∃ Bf ow as, as.length = n ∧ Ok P Bf ow as (vs.map some) H ∧ (∀ i a, ow i = some a → i ∈ P) ∧ (∀ (i : Nat) (d : D), as[i]? ≠ some (Sl.vn d)) ∧ ∃ ds as', F as = some (ds, as') ∧
  ∀ p xs H', Aft P (insB Bf p) ow as' H H' → H p = none → H' p = some (.lst xs) → RpL H' (blk (insB Bf p) ow) ds xs → Q (.ref p) H'
def fnV (m : Nat) (f : FS) : FF := fun as => match f (as ++ List.replicate (m - as.length) .un) with
  | some (.rt d en) => some (d, en)
  | some (.nx en) => some (.none, en)
  | some (.rf ds en) => some (.list ds, en)
  | _ => none
def fnL (m : Nat) (f : FS) : FFL := fun as => match f (as ++ List.replicate (m - as.length) .un) with
  | some (.rf ds en) => some (ds, en)
  | _ => none
section
variable {P : Pl} {Bf : Bk} {ow ow' : Nat → Option Addr} {as en' : En} {vs : List V} {H H' : Hp}
def runB (Bf : Bk) (H : Hp) : Bk := ⟨Bf.bl, fun b => H b ≠ none⟩
theorem ok_start {N : List Str} (k : Ok P Bf ow as (vs.map some) H) (hw : ∀ i a, ow i = some a → i ∈ P) (hn : ∀ (i : Nat) (d : D), as[i]? ≠ some (Sl.vn d)) : Ok P (runB Bf H) ow (as ++ List.replicate (N.length - as.length) .un) (L2.start N vs) H := by
  have hl : vs.length = as.length := by simpa using k.hlen
  have e1 : ∀ (i : Nat) (s : Sl), (as ++ List.replicate (N.length - as.length) Sl.un)[i]? = some s → s ≠ .un → as[i]? = some s := fun i s e hs => by
    by_cases hi : i < as.length
    · rw [List.getElem?_append_left hi] at e
      exact e
    · rw [List.getElem?_append_right (by omega)] at e
      have := List.mem_of_getElem? e
      exact absurd (List.eq_of_mem_replicate this) hs
  have e2 : ∀ (i : Nat) (v : V), (vs.map some)[i]? = some (some v) → (L2.start N vs)[i]? = some (some v) := fun i v e => by
    unfold L2.start
    rw [List.getElem?_append_left (List.getElem?_eq_some_iff.mp e).1]
    exact e
  refine ⟨?_, fun i d e => ?_, fun i d e => absurd (e1 i _ e (fun z => nomatch z)) (hn i d), fun i s e f => ?_, fun i a e => ?_, k.hinj, k.hbf, fun b h => h, fun i a e hi => absurd (hw i a e) hi, k.htab⟩
  · unfold L2.start
    simp [hl]
  · obtain ⟨v, h1, h2⟩ := k.hva i d (e1 i _ e (fun z => nomatch z))
    exact ⟨v, e2 i v h1, h2⟩
  · obtain ⟨a, h1, h2, h3⟩ := k.hob i s (e1 i _ e (fun z => by subst z; cases f)) f
    exact ⟨a, h1, e2 i _ h2, h3⟩
  · obtain ⟨s, e, f⟩ := k.hdom i a e
    exact ⟨s, by rw [List.getElem?_append_left (List.getElem?_eq_some_iff.mp e).1]; exact e, f⟩
theorem run_sub (hw : ∀ i a, ow i = some a → i ∈ P) (hp : ∀ i, i ∈ P → ow' i = ow i) {b : Addr} (z : blk Bf ow b) : blk (runB Bf H) ow' b := by
  rcases z with z | ⟨i, z⟩
  · exact .inl z
  · exact .inr ⟨i, by rw [hp i (hw i b z)]; exact z⟩
theorem run_subI {p : Addr} (hw : ∀ i a, ow i = some a → i ∈ P) (hp : ∀ i, i ∈ P → ow' i = ow i) {b : Addr} (z : blk (insB Bf p) ow b) : blk (insB (runB Bf H) p) ow' b := by
  rcases z with z | ⟨i, z⟩
  · exact .inl z
  · exact .inr ⟨i, by rw [hp i (hw i b z)]; exact z⟩
theorem aft_of {σ' : L2.St} (hw : ∀ i a, ow i = some a → i ∈ P) (k : Ok P (runB Bf H) ow' en' σ' H') (r : RelS P H ow H' ow') : Aft P Bf ow en' H H' :=
  ⟨fun i hi a e => by
    have e' : ow' i = some a := (r.hpin i hi).trans e
    obtain ⟨s, h, f, g2, g3⟩ := k.hat e'
    exact ⟨s, h, f, g3.move (fun o e _ => e) fun b o e t n => ⟨e, fun z => n (run_sub hw r.hpin z)⟩⟩, fun b o e t n => (r.hkeep b o e t n).1, r.hsome, k.htab, r.hfrz, r.hnt⟩
theorem aft_ofI {σ' : L2.St} {p : Addr} (hw : ∀ i a, ow i = some a → i ∈ P) (k : Ok P (insB (runB Bf H) p) ow' en' σ' H') (r : RelS P H ow H' ow') : Aft P (insB Bf p) ow en' H H' :=
  ⟨fun i hi a e => by
    have e' : ow' i = some a := (r.hpin i hi).trans e
    obtain ⟨s, h, f, g2, g3⟩ := k.hat e'
    exact ⟨s, h, f, g3.move (fun o e _ => e) fun b o e t n => ⟨e, fun z => n (run_subI hw r.hpin z)⟩⟩, fun b o e t n => (r.hkeep b o e t n).1, r.hsome, k.htab, r.hfrz, r.hnt⟩
/-- a body's reading gives the function's promise -/
theorem body_V {N : List Str} {n : Nat} {f : FS} {Q : VK} {E : XK} (h : spV P n (fnV N.length f) vs H Q E) : tvS P f { nx := fun _ H' => Q .non H', rt := Q } (L2.start N vs) H := by
  obtain ⟨Bf, ow, as, hl, k, hw, hn, d, as', hF, q⟩ := h
  unfold fnV at hF
  split at hF
  · rename_i d' en h1
    cases hF
    refine ⟨runB Bf H, ow, _, ok_start k hw hn, _, h1, fun ow' σ' H' v k' r p => ?_⟩
    exact q v H' (aft_of hw k' r) (p.move fun b o e t n => ⟨e, fun z => n (run_sub hw r.hpin z)⟩)
  · rename_i en h1
    cases hF
    refine ⟨runB Bf H, ow, _, ok_start k hw hn, _, h1, fun ow' σ' H' k' r => ?_⟩
    exact q .non H' (aft_of hw k' r) .non
  · rename_i ds en h1
    cases hF
    refine ⟨runB Bf H, ow, _, ok_start k hw hn, _, h1, fun ow' σ' H' p xs k' r b1 b2 b3 hp rs => ?_⟩
    exact q (.ref p) H' (aft_of hw k'.unins r) ((Rp.lst (new_nb b1 b3) (.inl hp) rs.unins).move fun b o e t n => ⟨e, fun z => n (run_sub hw r.hpin z)⟩)
  · cases hF
theorem body_L {N : List Str} {n : Nat} {f : FS} {Q : VK} {E : XK} (h : spL P n (fnL N.length f) vs H Q E) : tvS P f { nx := fun _ H' => Q .non H', rt := Q } (L2.start N vs) H := by
  obtain ⟨Bf, ow, as, hl, k, hw, hn, d, as', hF, q⟩ := h
  unfold fnL at hF
  split at hF
  · rename_i ds en h1
    cases hF
    refine ⟨runB Bf H, ow, _, ok_start k hw hn, _, h1, fun ow' σ' H' p xs k' r b1 b2 b3 hp rs => ?_⟩
    refine q p xs H' (aft_ofI hw k' r) ?_ hp (rs.move fun b o e t n => ⟨e, fun z => n (run_subI hw r.hpin z)⟩)
    cases e : H p with
    | none => rfl
    | some o => exact absurd (show H p ≠ none by rw [e]; exact fun z => nomatch z) b2
  · cases hF
theorem len_V {n : Nat} {F : FF} {ps : List Str} (hn : ps.length = n) : ∀ vs H Q E, spV P n F vs H Q E → vs.length = ps.length := fun vs H Q E h => by
  obtain ⟨Bf, ow, as, hl, k, _⟩ := h
  have := k.hlen
  rw [List.length_map] at this
  omega
theorem len_L {n : Nat} {F : FFL} {ps : List Str} (hn : ps.length = n) : ∀ vs H Q E, spL P n F vs H Q E → vs.length = ps.length := fun vs H Q E h => by
  obtain ⟨Bf, ow, as, hl, k, _⟩ := h
  have := k.hlen
  rw [List.length_map] at this
  omega
end
/-- a def that keeps its promise, by its name -/
structure Def (P : Program) (w : World) (K : PySem.W.Frag) (mg : Str → Option Value) (base : Heap) (x : Str) (k : Nat) (ps : List Str) (sp : Sp) : Prop where
  ex : ∃ (f : Addr) (fd : FuncData), mg x = some (.ref f) ∧ PySem.W.keepIn K (.ref f) = true ∧ Binds K fd ps [] ∧ FnOk P w K mg base CX0 k f fd ps sp ∧ ∃ oc od osl, K.lookup f = some ⟨oc, od, .func fd, osl⟩
/-- what a name's def is, before its promise -/
structure Nmd (K : PySem.W.Frag) (mg : Str → Option Value) (x : String) (st : Stmt) (ps : List Str) : Prop where
  ex : ∃ (f : Addr) (fd : FuncData), mg x = some (.ref f) ∧ Fun K x x st f fd ∧ Binds K fd ps []
theorem fun_lk {K : PySem.W.Frag} {x qual : Str} {st : Stmt} {f : Addr} {fd : FuncData} (F : Fun K x qual st f fd) : ∃ oc od osl, K.lookup f = some ⟨oc, od, .func fd, osl⟩ := by
  obtain ⟨oc, od, kV, doc, pm, an, cdv, ct, osl, rfl, lk, _⟩ := F.ex
  exact ⟨oc, od, osl, lk⟩
section
variable {Pg : Program} {w : World} {K : PySem.W.Frag} {mg : Str → Option Value} {base : Heap} {P : Pl}
theorem def_V {x : String} {st : Stmt} {N ps : List Str} {k : Nat} {f : FS} (F : Nmd K mg x st ps) (S : FnScope N ps (defScope st))
    (hb : ∀ (fa : Addr) (cdv : Value) (A : Around) (outer : List Env) (s : Shared) (H : Hp) (E : XK), Room k (A.deeper (envOfC x (defScope st) s.heap.objs.size fa cdv)) → VB (cxOf CX0 Pg w K mg base N x (defScope st) fa cdv A outer s H E).nox P (defBody st) f) :
    Def Pg w K mg base x (k + 1) ps (spV P ps.length (fnV N.length f)) := by
  obtain ⟨fa, fd, h1, h2, h3⟩ := F.ex
  exact ⟨fa, fd, h1, h2.kp, h3, h2.ok S (len_V rfl) fun cdv A outer s H vs Q E hr h => ⟨_, hb fa cdv A outer s H E hr, body_V h⟩, fun_lk h2⟩
theorem def_L {x : String} {st : Stmt} {N ps : List Str} {k : Nat} {f : FS} (F : Nmd K mg x st ps) (S : FnScope N ps (defScope st))
    (hb : ∀ (fa : Addr) (cdv : Value) (A : Around) (outer : List Env) (s : Shared) (H : Hp) (E : XK), Room k (A.deeper (envOfC x (defScope st) s.heap.objs.size fa cdv)) → VB (cxOf CX0 Pg w K mg base N x (defScope st) fa cdv A outer s H E).nox P (defBody st) f) :
    Def Pg w K mg base x (k + 1) ps (spL P ps.length (fnL N.length f)) := by
  obtain ⟨fa, fd, h1, h2, h3⟩ := F.ex
  exact ⟨fa, fd, h1, h2.kp, h3, h2.ok S (len_L rfl) fun cdv A outer s H vs Q E hr h => ⟨_, hb fa cdv A outer s H E hr, body_L h⟩, fun_lk h2⟩
end
end VL

namespace VL
open PySem PySem.Spec
open PyProof.Rows L2

/-! ### arguments of a call of one's own: a value, a list of the caller's own that the def may change, one that is lent -/
inductive Md where
  | v (d : D) | o (i : Nat) | b (i : Nat)
abbrev FM := En → Option (List Md × En)
def MdOk (Bf : Bk) (ow : Nat → Option Addr) (en : En) (H : Hp) : Md → V → Prop
  | .v d, x => Rp H (blk Bf ow) d x
  | .o i, x => ∃ a, ow i = some a ∧ x = .ref a
  | .b i, x => ∃ a, ow i = some a ∧ x = .ref a
def MdsOk (Bf : Bk) (ow : Nat → Option Addr) (en : En) (H : Hp) : List Md → List V → Prop
  | [], [] => True
  | m :: ms, x :: xs => MdOk Bf ow en H m x ∧ MdsOk Bf ow en H ms xs
  | _, _ => False
def tvM (P : Pl) (f : FM) : TA := fun σ H Q => ∃ Bf ow en, Ok P Bf ow en σ H ∧ ∃ ms en', f en = some (ms, en') ∧
  ∀ vs ow' H', Ok P Bf ow' en' σ H' → Rel P H ow H' ow' → MdsOk Bf ow' en' H' ms vs → Q vs H'
def VM (X : Cx) (P : Pl) (es : List Expr) (f : FM) : Prop := PA X es (tvM P f)
section
variable {X : Cx} {P : Pl} {a b e : Expr} {es : List Expr} {fa fb : FE} {gm : FM} {pos apos cpos : Pos}
def mNil : FM := fun en => some ([], en)
def mCons (f : FE) (g : FM) : FM := fun en => match f en with
  | some (d, en1) => match g en1 with
    | some (ms, en2) => some (.v d :: ms, en2)
    | none => none
  | none => none
def isOwnO : Option Sl → Bool
  | some s => isOwn s
  | none => false
theorem isOwnO_of {o : Option Sl} (h : isOwnO o = true) : ∃ s, o = some s ∧ isOwn s = true := by
  unfold isOwnO at h
  split at h
  · exact ⟨_, rfl, h⟩
  · cases h
def mOwn (i : Nat) (g : FM) : FM := fun en => if isOwnO en[i]? then (match g en with
  | some (ms, en1) => if isOwnO en1[i]? then some (.o i :: ms, en1) else none
  | none => none) else none
def mLend (i : Nat) (g : FM) : FM := fun en => if isOw en[i]? then (match g en with
  | some (ms, en1) => if isOw en1[i]? then some (.b i :: ms, en1) else none
  | none => none) else none
theorem vm_nil : VM X P [] mNil := by
  refine PA.weak pa_nil fun σ H Q h => ?_
  obtain ⟨Bf, ow, en, k, d, en', hf, q⟩ := h
  cases hf
  exact q [] ow H k .refl trivial
theorem vm_cons (ha : VE X P e fa) (hr : VM X P es gm) (hs : starEach (e :: es) X.env = (false, eval e X.env) :: starEach es X.env := by rfl) : VM X P (e :: es) (mCons fa gm) := by
  refine PA.weak (pa_cons ha hr hs) fun σ H Q h => ?_
  obtain ⟨Bf, ow, en, k, d, en', hf, q⟩ := h
  unfold mCons at hf
  split at hf <;> first | cases hf | skip
  rename_i d1 en1 h1
  split at hf <;> first | cases hf | skip
  rename_i ds en2 h2
  exact ⟨Bf, ow, en, k, _, _, h1, fun v1 ow1 H1 k1 r1 p1 => ⟨Bf, ow1, en1, k1, _, _, h2, fun vs ow2 H2 k2 r2 p2 => q _ ow2 H2 k2 (r1.trans r2) ⟨r2.rp p1, p2⟩⟩⟩
theorem vm_own {i : Nat} {x : Str} {p' : Pos} (hN : X.N[i]? = some x) (hv : Vis X.env.scope x := by first | exact .inl rfl | exact .inr (.inl rfl) | exact .inr (.inr rfl)) (hr : VM X P es gm) (hs : starEach (.Name x p' :: es) X.env = (false, eval (.Name x p') X.env) :: starEach es X.env := by rfl)
    (hd : (x == ("__debug__" : Str)) = false := by decide) (hcd : (x == ("__classdict__" : Str)) = false := by decide) : VM X P (.Name x p' :: es) (mOwn i gm) := by
  refine PA.weak (pa_cons (pe_var hN hv hd hcd) hr hs) fun σ H Q h => ?_
  obtain ⟨Bf, ow, en, k, d, en', hf, q⟩ := h
  unfold mOwn at hf
  split at hf <;> first | cases hf | skip
  rename_i h0
  obtain ⟨s0, e0, f0⟩ := isOwnO_of h0
  obtain ⟨a, g1, g2, g3⟩ := k.hob i s0 e0 f0
  split at hf <;> first | cases hf | skip
  rename_i ms en1 h1
  split at hf <;> first | cases hf | skip
  rename_i h2
  obtain ⟨s1, e1, f1⟩ := isOwnO_of h2
  refine ⟨_, g2, Bf, ow, en, k, _, _, h1, fun vs ow1 H1 k1 r1 p1 => q _ ow1 H1 k1 r1 ⟨?_, p1⟩⟩
  obtain ⟨a', w2, _⟩ := k1.hob i s1 e1 f1
  have w1 := r1.hsub i a' w2
  rw [g1] at w1
  cases w1
  exact ⟨a, w2, rfl⟩
theorem vm_lend {i : Nat} {x : Str} {p' : Pos} (hN : X.N[i]? = some x) (hv : Vis X.env.scope x := by first | exact .inl rfl | exact .inr (.inl rfl) | exact .inr (.inr rfl)) (hr : VM X P es gm) (hs : starEach (.Name x p' :: es) X.env = (false, eval (.Name x p') X.env) :: starEach es X.env := by rfl)
    (hd : (x == ("__debug__" : Str)) = false := by decide) (hcd : (x == ("__classdict__" : Str)) = false := by decide) : VM X P (.Name x p' :: es) (mLend i gm) := by
  refine PA.weak (pa_cons (pe_var hN hv hd hcd) hr hs) fun σ H Q h => ?_
  obtain ⟨Bf, ow, en, k, d, en', hf, q⟩ := h
  unfold mLend at hf
  split at hf <;> first | cases hf | skip
  rename_i h0
  obtain ⟨ds0, e0⟩ := isOw_of h0
  obtain ⟨a, xs0, g1, g2, g3, g4⟩ := k.hown i ds0 e0
  split at hf <;> first | cases hf | skip
  rename_i ms en1 h1
  split at hf <;> first | cases hf | skip
  rename_i h2
  obtain ⟨ds1, e1⟩ := isOw_of h2
  refine ⟨_, g2, Bf, ow, en, k, _, _, h1, fun vs ow1 H1 k1 r1 p1 => q _ ow1 H1 k1 r1 ⟨?_, p1⟩⟩
  obtain ⟨a', xs1, w1, w2, _⟩ := own_back k k1 r1 e1
  rw [g1] at w1
  cases w1
  exact ⟨a, w2, rfl⟩

/-! ### from the caller's state to the callee's, and back -/
def mdSl (en : En) : Md → Sl
  | .v d => .va d
  | .o i => (en[i]?).getD .un
  | .b i => match en[i]? with
    | some (.ow ds) => .va (.list ds)
    | _ => .un
/-- the callee's own lists -/
def mdOw (ow : Nat → Option Addr) (ms : List Md) (j : Nat) : Option Addr := match ms[j]? with
  | some (.o i) => ow i
  | _ => none
def isO : Md → Bool
  | .o _ => true
  | _ => false
def isB : Md → Bool
  | .b _ => true
  | _ => false
/-- which slots are handed over: no slot twice, and just those at the places P' -/
def handOk (P' : List Nat) (ms : List Md) : Bool := (List.range ms.length).all fun j => match ms[j]? with
  | some (.o i) => decide (j ∈ P') && (List.range ms.length).all fun l => match ms[l]? with
    | some (.o i') => i' != i || l == j
    | _ => true
  | _ => true
theorem MdsOk.length {Bf : Bk} {ow : Nat → Option Addr} {en : En} {H : Hp} : ∀ {ms : List Md} {vs : List V}, MdsOk Bf ow en H ms vs → ms.length = vs.length
  | [], [], _ => rfl
  | _ :: _, _ :: _, h => by simp [MdsOk.length h.2]
  | [], _ :: _, h => h.elim
  | _ :: _, [], h => h.elim
theorem MdsOk.get {Bf : Bk} {ow : Nat → Option Addr} {en : En} {H : Hp} : ∀ {ms : List Md} {vs : List V} {j : Nat} {m : Md}, MdsOk Bf ow en H ms vs → ms[j]? = some m → ∃ v, vs[j]? = some v ∧ MdOk Bf ow en H m v
  | [], [], _, _, _, e => by simp at e
  | m :: _, v :: _, 0, _, h, e => by simp at e; subst e; exact ⟨v, rfl, h.1⟩
  | _ :: ms, _ :: vs, j + 1, m, h, e => by
    obtain ⟨v, h1, h2⟩ := MdsOk.get (j := j) h.2 (by simpa using e)
    exact ⟨v, by simpa using h1, h2⟩
  | [], _ :: _, _, _, h, _ => h.elim
  | _ :: _, [], _, _, h, _ => h.elim
theorem handOk_spec {P' : List Nat} {ms : List Md} (h : handOk P' ms = true) {j i : Nat} (e : ms[j]? = some (Md.o i)) : j ∈ P' ∧ ∀ (l : Nat), ms[l]? = some (Md.o i) → l = j := by
  unfold handOk at h
  have hj := (List.all_eq_true.mp h) j (List.mem_range.mpr (List.getElem?_eq_some_iff.mp e).1)
  simp only [e, Bool.and_eq_true, decide_eq_true_eq] at hj
  refine ⟨hj.1, fun l el => ?_⟩
  have hl := (List.all_eq_true.mp hj.2) l (List.mem_range.mpr (List.getElem?_eq_some_iff.mp el).1)
  simp only [el, bne_self_eq_false, Bool.false_or, beq_iff_eq] at hl
  exact hl
/-- the callee's state: nothing lent -/
theorem callee_ok {Bf : Bk} {ow : Nat → Option Addr} {en : En} {σ : L2.St} {H : Hp} {ms : List Md} {vs : List V} {P' : Pl} (hP : P'.tb = P.tb) (k : Ok P Bf ow en σ H) (h : MdsOk Bf ow en H ms vs) (hb : ms.all (fun m => !isB m) = true) (hh : handOk P'.ps ms = true) :
    Ok P' ⟨blk Bf ow, fun _ => False⟩ (mdOw ow ms) (ms.map (mdSl en)) (vs.map some) H ∧ (∀ j a, mdOw ow ms j = some a → j ∈ P') ∧ ∀ (j : Nat) (d : D), (ms.map (mdSl en))[j]? ≠ some (Sl.vn d) := by
  have sub : ∀ b, blk ⟨blk Bf ow, fun _ => False⟩ (mdOw ow ms) b → blk Bf ow b := fun b z => by
    rcases z with z | ⟨j, z⟩
    · exact z
    · unfold mdOw at z
      split at z
      · exact .inr ⟨_, z⟩
      · cases z
  have mv : ∀ b o, H b = some o → NT o → ¬ blk Bf ow b → H b = some o ∧ ¬ blk ⟨blk Bf ow, fun _ => False⟩ (mdOw ow ms) b := fun b o e t n => ⟨e, fun z => n (sub b z)⟩
  have inP : ∀ j a, mdOw ow ms j = some a → j ∈ P' := fun j a e => by
    unfold mdOw at e
    split at e
    · rename_i i em
      exact (handOk_spec hh em).1
    · cases e
  have noN : ∀ (j : Nat) (d : D), (ms.map (mdSl en))[j]? ≠ some (Sl.vn d) := fun j d e => by
    rw [List.getElem?_map] at e
    cases em : ms[j]? with
    | none => rw [em] at e; cases e
    | some m =>
      rw [em] at e
      obtain ⟨v, h1, h2⟩ := h.get em
      cases m with
      | v d' => cases e
      | o i =>
        obtain ⟨a, h3, h4⟩ := h2
        obtain ⟨s', h5, h6⟩ := k.hdom i a h3
        simp [mdSl, h5] at e
        subst e
        cases h6
      | b i =>
        have := (List.all_eq_true.mp hb) _ (List.mem_of_getElem? em)
        simp [isB] at this
  refine ⟨⟨by simp [h.length], fun j d e => ?_, fun j d e => absurd e (noN j d), fun j s e f => ?_, fun j a e => ?_, fun j l a e1 e2 => ?_, fun b z => ?_, fun b z => z.elim, fun j a e hj => absurd (inP j a e) hj, by rw [hP]; exact k.htab⟩, inP, noN⟩
  · rw [List.getElem?_map] at e
    cases em : ms[j]? with
    | none => rw [em] at e; cases e
    | some m =>
      rw [em] at e
      obtain ⟨v, h1, h2⟩ := h.get em
      refine ⟨v, by rw [List.getElem?_map, h1]; rfl, ?_⟩
      cases m with
      | v d' =>
        cases e
        exact Rp.move mv h2
      | o i =>
        obtain ⟨a, h3, h4⟩ := h2
        obtain ⟨s', h5, h6⟩ := k.hdom i a h3
        simp [mdSl, h5] at e
        subst e
        cases h6
      | b i =>
        have := (List.all_eq_true.mp hb) _ (List.mem_of_getElem? em)
        simp [isB] at this
  · rw [List.getElem?_map] at e
    cases em : ms[j]? with
    | none => rw [em] at e; cases e
    | some m =>
      rw [em] at e
      obtain ⟨v, h1, h2⟩ := h.get em
      cases m with
      | v d' =>
        cases e
        cases f
      | o i =>
        obtain ⟨a, h3, h4⟩ := h2
        subst h4
        obtain ⟨s', h5, h6, g2, g3⟩ := k.hat h3
        simp [mdSl, h5] at e
        subst e
        exact ⟨a, by unfold mdOw; rw [em]; exact h3, by rw [List.getElem?_map, h1]; rfl, g3.move (fun o e _ => e) mv⟩
      | b i =>
        have := (List.all_eq_true.mp hb) _ (List.mem_of_getElem? em)
        simp [isB] at this
  · unfold mdOw at e
    split at e
    · rename_i i em
      obtain ⟨s', h5, h6⟩ := k.hdom i a e
      exact ⟨s', by rw [List.getElem?_map, em]; simp [mdSl, h5], h6⟩
    · cases e
  · unfold mdOw at e1 e2
    split at e1 <;> first | cases e1 | skip
    rename_i i em
    split at e2 <;> first | cases e2 | skip
    rename_i i' em'
    have := k.hinj i i' a e1 e2
    subst this
    exact (handOk_spec hh em').2 j em
  · rcases z with z | ⟨i, z⟩
    · exact k.hbf b z
    · obtain ⟨_, _, _, _, g3⟩ := k.hat z
      exact g3.nt
/-- what the callee has made of the lists that were handed over -/
def putBack : List Md → Nat → En → En → En
  | [], _, _, en => en
  | .o i :: ms, j, as', en => putBack ms (j + 1) as' (match as'[j]? with
    | some (.ow ds) => en.set i (.ow ds)
    | some (.dc t ds) => en.set i (.dc t ds)
    | _ => en)
  | _ :: ms, j, as', en => putBack ms (j + 1) as' en
theorem putBack_length : ∀ (ms : List Md) (j : Nat) (as' en : En), (putBack ms j as' en).length = en.length
  | [], _, _, _ => rfl
  | .o i :: ms, j, as', en => by
    unfold putBack
    rw [putBack_length ms]
    split <;> simp
  | .v _ :: ms, j, as', en => by unfold putBack; exact putBack_length ms _ _ _
  | .b _ :: ms, j, as', en => by unfold putBack; exact putBack_length ms _ _ _
theorem putBack_other {i : Nat} : ∀ (ms : List Md) (j : Nat) (as' en : En), (∀ (l : Nat), ms[l]? ≠ some (Md.o i)) → (putBack ms j as' en)[i]? = en[i]?
  | [], _, _, _, _ => rfl
  | .o i' :: ms, j, as', en, h => by
    unfold putBack
    have hne : i' ≠ i := fun z => h 0 (by rw [z]; rfl)
    rw [putBack_other ms _ _ _ fun l => by simpa using h (l + 1)]
    split
    · rw [List.getElem?_set_ne hne]
    · rw [List.getElem?_set_ne hne]
    · rfl
  | .v _ :: ms, j, as', en, h => by unfold putBack; exact putBack_other ms _ _ _ fun l => by simpa using h (l + 1)
  | .b _ :: ms, j, as', en, h => by unfold putBack; exact putBack_other ms _ _ _ fun l => by simpa using h (l + 1)
theorem putBack_at {i : Nat} {sl : Sl} (ho : isOwn sl = true) : ∀ (ms : List Md) (j l : Nat) (as' en : En), ms[l]? = some (Md.o i) → (∀ (l' : Nat), ms[l']? = some (Md.o i) → l' = l) → as'[j + l]? = some sl → i < en.length → (putBack ms j as' en)[i]? = some sl
  | [], _, _, _, _, h, _, _, _ => by simp at h
  | .o i' :: ms, j, 0, as', en, h, hu, ha, hl => by
    have e : i' = i := by simpa using h
    subst e
    unfold putBack
    rw [Nat.add_zero] at ha
    rw [ha]
    rw [putBack_other ms _ _ _ fun l z => by
      have := hu (l + 1) (by simpa using z)
      omega]
    cases sl with
    | ow ds => exact List.getElem?_set_self hl
    | dc t ds => exact List.getElem?_set_self hl
    | un => cases ho
    | va _ => cases ho
    | vn _ => cases ho
  | .o i' :: ms, j, l + 1, as', en, h, hu, ha, hl => by
    unfold putBack
    refine putBack_at ho ms (j + 1) l as' _ (by simpa using h) (fun l' z => by
      have := hu (l' + 1) (by simpa using z)
      omega) (by rw [← ha]; congr 1; omega) ?_
    split <;> simpa using hl
  | .v _ :: ms, j, 0, as', en, h, hu, ha, hl => by simp at h
  | .v _ :: ms, j, l + 1, as', en, h, hu, ha, hl => by
    unfold putBack
    exact putBack_at ho ms (j + 1) l as' _ (by simpa using h) (fun l' z => by
      have := hu (l' + 1) (by simpa using z)
      omega) (by rw [← ha]; congr 1; omega) hl
  | .b _ :: ms, j, 0, as', en, h, hu, ha, hl => by simp at h
  | .b _ :: ms, j, l + 1, as', en, h, hu, ha, hl => by
    unfold putBack
    exact putBack_at ho ms (j + 1) l as' _ (by simpa using h) (fun l' z => by
      have := hu (l' + 1) (by simpa using z)
      omega) (by rw [← ha]; congr 1; omega) hl
/-- behind the call; Bx: what is blocked for the callee (with a new list's address, if it gives one) -/
theorem caller_ok {Bf Bx : Bk} {ow : Nat → Option Addr} {en as' : En} {σ : L2.St} {H H' : Hp} {ms : List Md} {vs : List V} {P' : Pl} (hP : P'.tb = P.tb) (k : Ok P Bf ow en σ H) (h : MdsOk Bf ow en H ms vs) (hh : handOk P'.ps ms = true)
    (af : Aft P' Bx (mdOw ow ms) as' H H') (By : Bk) (h1 : ∀ b, blk Bf ow b → blk Bx (mdOw ow ms) b) (hy : ∀ b, blk By ow b → blk Bx (mdOw ow ms) b) (hyo : By.od = Bf.od)
    (mvy : ∀ b o, H b = some o → NT o → ¬ blk Bf ow b → H' b = some o ∧ ¬ blk By ow b) (hbf : ∀ b, By.bl b → nt H' b) (hloc : ∀ i a, ow i = some a → i ∉ P → ¬ By.bl a) :
    Ok P By ow (putBack ms 0 as' en) σ H' ∧ Rel P H ow H' ow := by
  have keep : ∀ b o, H b = some o → NT o → (∀ i, ow i ≠ some b) → H' b = some o := fun b o e t n => af.keep b o e t fun j z => by
    unfold mdOw at z
    split at z
    · exact n _ z
    · cases z
  have mv2 : ∀ b o, H' b = some o → NT o → ¬ blk Bx (mdOw ow ms) b → H' b = some o ∧ ¬ blk By ow b := fun b o e t n => ⟨e, fun z => n (hy b z)⟩
  have cases_i : ∀ i, (∃ l : Nat, ms[l]? = some (Md.o i)) ∨ ∀ l : Nat, ms[l]? ≠ some (Md.o i) := fun i => by
    by_cases z : ∃ l : Nat, ms[l]? = some (Md.o i)
    · exact .inl z
    · exact .inr fun l e => z ⟨l, e⟩
  -- a slot that was handed over
  have handed : ∀ (i l : Nat), ms[l]? = some (Md.o i) → ∃ a sl, ow i = some a ∧ σ[i]? = some (some (.ref a)) ∧ (putBack ms 0 as' en)[i]? = some sl ∧ isOwn sl = true ∧ OwnAt H' (blk Bx (mdOw ow ms)) a sl := fun i l e => by
    obtain ⟨v, g1, a, g2, g3⟩ := h.get e
    obtain ⟨s0, g4, _, w2, _⟩ := k.hat g2
    obtain ⟨sl, g5, g6, g7⟩ := af.own l (handOk_spec hh e).1 a (by unfold mdOw; rw [e]; exact g2)
    refine ⟨a, sl, g2, w2, ?_, g6, g7⟩
    exact putBack_at g6 ms 0 l as' en e (handOk_spec hh e).2 (by rw [Nat.zero_add]; exact g5) (List.getElem?_eq_some_iff.mp g4).1
  have mvyN : ∀ b o, H b = some o → NT o → ¬ blkN Bf ow b → H' b = some o ∧ ¬ blkN By ow b := fun b o e t n => ⟨(mvy b o e t fun z => n (.inl z)).1, fun z => z.elim (mvy b o e t fun z => n (.inl z)).2 fun z => n (.inr (by rw [← hyo]; exact z))⟩
  refine ⟨⟨by rw [putBack_length]; exact k.hlen, fun i d e => ?_, fun i d e => ?_, fun i s e f => ?_, fun i a e => ?_, k.hinj, hbf, fun b z => af.dom b (k.hod b (by rw [← hyo]; exact z)), fun i a e hi => ⟨hloc i a e hi, by rw [hyo]; exact (k.hloc i a e hi).2⟩, by rw [← hP]; exact af.tab⟩, fun b o e t n => ⟨keep b o e t n, n⟩, af.dom, fun _ _ => rfl, fun _ _ z => z, af.frz, af.ntk⟩
  · rcases cases_i i with ⟨l, z⟩ | z
    · obtain ⟨a, sl, g1, g2, g3, g4, _⟩ := handed i l z
      rw [g3] at e
      cases e
      cases g4
    · rw [putBack_other ms 0 as' en z] at e
      obtain ⟨v, g1, g2⟩ := k.hva i d e
      exact ⟨v, g1, g2.move mvy⟩
  · rcases cases_i i with ⟨l, z⟩ | z
    · obtain ⟨a, sl, g1, g2, g3, g4, _⟩ := handed i l z
      rw [g3] at e
      cases e
      cases g4
    · rw [putBack_other ms 0 as' en z] at e
      obtain ⟨v, g1, g2⟩ := k.hvn i d e
      exact ⟨v, g1, g2.move mvyN⟩
  · rcases cases_i i with ⟨l, z⟩ | z
    · obtain ⟨a, sl, g1, g2, g3, g4, g5⟩ := handed i l z
      rw [g3] at e
      cases e
      exact ⟨a, g1, g2, g5.move (fun o e _ => e) mv2⟩
    · rw [putBack_other ms 0 as' en z] at e
      obtain ⟨a, g1, g2, g3⟩ := k.hob i s e f
      refine ⟨a, g1, g2, g3.move (fun o e t => af.keep a o e t fun j w => ?_) mvy⟩
      unfold mdOw at w
      split at w
      · rename_i i' em
        have := k.hinj i' i a w g1
        subst this
        exact z j em
      · cases w
  · rcases cases_i i with ⟨l, z⟩ | z
    · obtain ⟨a, sl, g1, g2, g3, g4, g5⟩ := handed i l z
      exact ⟨sl, g3, g4⟩
    · obtain ⟨s, g, f⟩ := k.hdom i a e
      exact ⟨s, by rw [putBack_other ms 0 as' en z]; exact g, f⟩
end
end VL

namespace VL
open PySem PySem.Spec
open PyProof.Rows L2

section
variable {X : Cx} {P : Pl} {a b e : Expr} {es : List Expr} {fa fb : FE} {gm : FM} {pos apos cpos : Pos}
def noB (ms : List Md) : Bool := ms.all fun m => !isB m
def eCallF (P' : List Nat) (n : Nat) (F : FF) (g : FM) : FE := fun en => match g en with
  | some (ms, en1) => if handOk P' ms = true ∧ noB ms = true ∧ ms.length = n then (match F (ms.map (mdSl en1)) with
    | some (d, as') => some (d, putBack ms 0 as' en1)
    | none => none) else none
  | none => none
def lCallF (P' : List Nat) (n : Nat) (F : FFL) (g : FM) : FL := fun en => match g en with
  | some (ms, en1) => if handOk P' ms = true ∧ noB ms = true ∧ ms.length = n then (match F (ms.map (mdSl en1)) with
    | some (d, as') => some (d, putBack ms 0 as' en1)
    | none => none) else none
  | none => none
theorem tv_callF {P' : Pl} (hP : P'.tb = P.tb) {n : Nat} {F : FF} {E : XK} (σ : L2.St) (H : Hp) (Q : VK) (h : tv P (eCallF P'.ps n F gm) σ H Q) : tCall (spV P' n F) [] E (tvM P gm) σ H Q := by
  obtain ⟨Bf, ow, en, k, d, en', hf, q⟩ := h
  unfold eCallF at hf
  split at hf <;> first | cases hf | skip
  rename_i ms en1 h1
  split at hf <;> first | cases hf | skip
  rename_i hc
  obtain ⟨hh, hb, hl⟩ := hc
  split at hf <;> first | cases hf | skip
  rename_i d' as' hF
  refine ⟨Bf, ow, en, k, ms, en1, h1, fun vs ow1 H1 k1 r1 m1 => ?_⟩
  show spV P' n F (vs ++ []) H1 Q E
  rw [List.append_nil]
  obtain ⟨kc, hw, hn⟩ := callee_ok hP k1 m1 hb hh
  have sub : ∀ b, blk Bf ow1 b → blk ⟨blk Bf ow1, fun _ => False⟩ (mdOw ow1 ms) b := fun b z => .inl z
  refine ⟨_, _, _, by rw [List.length_map]; exact hl, kc, hw, hn, d, as', hF, fun v H' af p => ?_⟩
  have mvy : ∀ b o, H1 b = some o → NT o → ¬ blk Bf ow1 b → H' b = some o ∧ ¬ blk Bf ow1 b := fun b o e t nb => ⟨af.keep b o e t fun j z => (by
    unfold mdOw at z
    split at z
    · exact nb (.inr ⟨_, z⟩)
    · exact nomatch z), nb⟩
  obtain ⟨k2, r2⟩ := caller_ok hP k1 m1 hh af Bf sub sub rfl mvy (fun b z => af.ntk b (k1.hbf b z)) fun i a e hi => (k1.hloc i a e hi).1
  exact q v ow1 H' k2 (r1.trans r2) (p.move fun b o e t nb => ⟨e, fun z => nb (sub b z)⟩)
theorem tvF_callF {P' : Pl} (hP : P'.tb = P.tb) {n : Nat} {F : FFL} {E : XK} (σ : L2.St) (H : Hp) (Q : VK) (h : tvF P (lCallF P'.ps n F gm) σ H Q) : tCall (spL P' n F) [] E (tvM P gm) σ H Q := by
  obtain ⟨Bf, ow, en, k, d, en', hf, q⟩ := h
  unfold lCallF at hf
  split at hf <;> first | cases hf | skip
  rename_i ms en1 h1
  split at hf <;> first | cases hf | skip
  rename_i hc
  obtain ⟨hh, hb, hl⟩ := hc
  split at hf <;> first | cases hf | skip
  rename_i d' as' hF
  refine ⟨Bf, ow, en, k, ms, en1, h1, fun vs ow1 H1 k1 r1 m1 => ?_⟩
  show spL P' n F (vs ++ []) H1 Q E
  rw [List.append_nil]
  obtain ⟨kc, hw, hn⟩ := callee_ok hP k1 m1 hb hh
  refine ⟨_, _, _, by rw [List.length_map]; exact hl, kc, hw, hn, d, as', hF, fun p xs H' af hp0 hp rs => ?_⟩
  have np := k1.nb hp0
  have sub : ∀ b, blk (insB Bf p) ow1 b → blk (insB ⟨blk Bf ow1, fun _ => False⟩ p) (mdOw ow1 ms) b := fun b z => by
    rcases insB_blk z with z | z
    · exact .inl (.inl z)
    · exact .inl (.inr z)
  have mvy : ∀ b o, H1 b = some o → NT o → ¬ blk Bf ow1 b → H' b = some o ∧ ¬ blk (insB Bf p) ow1 b := fun b o e t nb => ⟨af.keep b o e t fun j z => (by
    unfold mdOw at z
    split at z
    · exact nb (.inr ⟨_, z⟩)
    · exact nomatch z), fun z => (by
    rcases insB_blk z with z | z
    · exact nb z
    · subst z
      rw [hp0] at e
      exact nomatch e)⟩
  have hbf : ∀ b, (insB Bf p).bl b → nt H' b := fun b z => by
    rcases z with z | z
    · exact af.ntk b (k1.hbf b z)
    · subst z
      exact ⟨_, hp, fun _ z => nomatch z⟩
  have hloc : ∀ i a, ow1 i = some a → i ∉ P → ¬ (insB Bf p).bl a := fun i a e hi z => by
    rcases z with z | z
    · exact (k1.hloc i a e hi).1 z
    · subst z
      exact np (.inr ⟨i, e⟩)
  obtain ⟨k2, r2⟩ := caller_ok hP k1 m1 hh af (insB Bf p) (fun b z => sub b (blk_insB z)) sub rfl mvy hbf hloc
  have h0 : H p = none := by
    cases e : H p with
    | none => rfl
    | some o => exact absurd hp0 (r1.hsome p (by rw [e]; exact fun z => nomatch z))
  exact q p xs ow1 H' k2 (r1.trans r2) (fun z => np (.inl z)) (fun z => k1.hod p z hp0) (fun i z => np (.inr ⟨i, z⟩)) h0 hp (rs.move fun b o e t nb => ⟨e, fun z => nb (sub b z)⟩)
theorem ve_call {x : Str} {k n : Nat} {ps : List Str} {ps' : List Nat} {F : FF} {p : Pos} (D : Def X.prog X.w X.K X.mg X.base x k ps (spV ⟨ps', P.tb⟩ n F)) (hr : Room k X.A) (hg : Gl X x) (ha : VM X P (e :: es) gm)
    (hdb : (x == ("__debug__" : Str)) = false := by decide) (he : starEach (e :: es) X.env = (false, eval e X.env) :: starEach es X.env := by rfl) (hpl : (backTo pos (starEach es X.env)).any (·.1) = false := by rfl)
    : VE X P (.Call (.Name x p) (e :: es) [] pos) (eCallF ps' n F gm) := by
  obtain ⟨f, fd, h1, h2, h3, h4, _⟩ := D.ex
  exact PE.weak (pe_call (E := fun _ _ _ => False) h4 hr hg h1 h2 h3 .nil pass0 ha hdb he hpl) (tv_callF (P := P) (P' := ⟨ps', P.tb⟩) rfl)
theorem vf_call {x : Str} {k n : Nat} {ps : List Str} {ps' : List Nat} {F : FFL} {p : Pos} (D : Def X.prog X.w X.K X.mg X.base x k ps (spL ⟨ps', P.tb⟩ n F)) (hr : Room k X.A) (hg : Gl X x) (ha : VM X P (e :: es) gm)
    (hdb : (x == ("__debug__" : Str)) = false := by decide) (he : starEach (e :: es) X.env = (false, eval e X.env) :: starEach es X.env := by rfl) (hpl : (backTo pos (starEach es X.env)).any (·.1) = false := by rfl)
    : VF X P (.Call (.Name x p) (e :: es) [] pos) (lCallF ps' n F gm) := by
  obtain ⟨f, fd, h1, h2, h3, h4, _⟩ := D.ex
  exact PE.weak (pe_call (E := fun _ _ _ => False) h4 hr hg h1 h2 h3 .nil pass0 ha hdb he hpl) (tvF_callF (P := P) (P' := ⟨ps', P.tb⟩) rfl)
/-! ### lists that are lent, to a def that gives back a flat value -/
def noO (ms : List Md) : Bool := ms.all fun m => !isO m
def eCallB (n : Nat) (F : FF) (g : FM) : FE := fun en => match g en with
  | some (ms, en1) => if noO ms = true ∧ ms.length = n then (match F (ms.map (mdSl en1)) with
    | some (d, _) => if flatD d = true then some (d, en1) else none
    | none => none) else none
  | none => none
theorem tv_callB {n : Nat} {F : FF} {E : XK} (σ : L2.St) (H : Hp) (Q : VK) (h : tv P (eCallB n F gm) σ H Q) : tCall (spV ⟨[], P.tb⟩ n F) [] E (tvM P gm) σ H Q := by
  obtain ⟨Bf, ow, en, k, d, en', hf, q⟩ := h
  unfold eCallB at hf
  split at hf <;> first | cases hf | skip
  rename_i ms en1 h1
  split at hf <;> first | cases hf | skip
  rename_i hc
  obtain ⟨ho, hl⟩ := hc
  split at hf <;> first | cases hf | skip
  rename_i d' as' hF
  split at hf <;> first | cases hf | skip
  rename_i hfl
  refine ⟨Bf, ow, en, k, ms, _, h1, fun vs ow1 H1 k1 r1 m1 => ?_⟩
  show spV ⟨[], P.tb⟩ n F (vs ++ []) H1 Q E
  rw [List.append_nil]
  let Bc : Bk := ⟨fun b => blk Bf ow1 b ∧ ¬ ∃ j i : Nat, ms[j]? = some (Md.b i) ∧ ow1 i = some b, fun _ => False⟩
  have sub : ∀ b, blk Bc (fun _ => none) b → blk Bf ow1 b := fun b z => by
    rcases z with z | ⟨j, z⟩
    · exact z.1
    · cases z
  have mv : ∀ b o, H1 b = some o → NT o → ¬ blk Bf ow1 b → H1 b = some o ∧ ¬ blk Bc (fun _ => none) b := fun b o e t n => ⟨e, fun z => n (sub b z)⟩
  have noOw : ∀ (j i : Nat), ms[j]? ≠ some (Md.o i) := fun j i e => by
    have := (List.all_eq_true.mp ho) _ (List.mem_of_getElem? e)
    simp [isO] at this
  have noN : ∀ (j : Nat) (d : D), (ms.map (mdSl en'))[j]? ≠ some (Sl.vn d) := fun j d e => by
    rw [List.getElem?_map] at e
    cases em : ms[j]? with
    | none => rw [em] at e; cases e
    | some m =>
      rw [em] at e
      cases m with
      | v d' => cases e
      | o i => exact absurd em (noOw j i)
      | b i =>
        have e' : (mdSl en' (.b i)) = .vn d := Option.some.inj e
        simp only [mdSl] at e'
        split at e' <;> cases e'
  have kc : Ok ⟨[], P.tb⟩ Bc (fun _ => none) (ms.map (mdSl en')) (vs.map some) H1 := by
    refine ⟨by simp [m1.length], fun j d e => ?_, fun j d e => absurd e (noN j d), fun j s e f => ?_, fun j a e => (nomatch e), fun j l a e _ => (nomatch e), fun b z => ?_, fun b z => z.elim, fun j a e => (nomatch e), k1.htab⟩
    · rw [List.getElem?_map] at e
      cases em : ms[j]? with
      | none => rw [em] at e; cases e
      | some m =>
        rw [em] at e
        obtain ⟨v, g1, g2⟩ := m1.get em
        refine ⟨v, by rw [List.getElem?_map, g1]; rfl, ?_⟩
        cases m with
        | v d' =>
          cases e
          exact Rp.move mv g2
        | o i => exact absurd em (noOw j i)
        | b i =>
          obtain ⟨a, g3, g4⟩ := g2
          obtain ⟨s0, g5, f0, w2, w34⟩ := k1.hat g3
          have e' : (mdSl en' (.b i)) = .va d := Option.some.inj e
          cases s0 with
          | dc t kvs =>
            simp only [mdSl, g5] at e'
            cases e'
          | un => cases f0
          | va _ => cases f0
          | vn _ => cases f0
          | ow ds =>
          simp only [mdSl, g5] at e'
          cases e'
          obtain ⟨xs, w3, w4⟩ := w34
          subst g4
          refine .lst (fun z => ?_) (.inl w3) (w4.move mv)
          rcases z with z | ⟨l, z⟩
          · exact z.2 ⟨j, i, em, g3⟩
          · cases z
    · rw [List.getElem?_map] at e
      cases em : ms[j]? with
      | none => rw [em] at e; cases e
      | some m =>
        rw [em] at e
        cases m with
        | v d' =>
          cases e
          cases f
        | o i => exact absurd em (noOw j i)
        | b i =>
          have e' : (mdSl en' (.b i)) = s := Option.some.inj e
          subst e'
          simp only [mdSl] at f
          split at f <;> cases f
    · rcases z.1 with z | ⟨i, z⟩
      · exact k1.hbf b z
      · obtain ⟨_, _, _, _, g3⟩ := k1.hat z
        exact g3.nt
  refine ⟨Bc, fun _ => none, _, by rw [List.length_map]; exact hl, kc, (fun i a e => (nomatch e)), noN, d, as', hF, fun v H' af p => ?_⟩
  have ex : ExtT P.tb H1 H' := ⟨fun b o e t => af.keep b o e t fun j z => (nomatch z), af.dom, (fun _ => af.tab), af.ntk⟩
  exact q v ow1 H' (k1.extT ex) (r1.trans ex.rel) (p.flat hfl)
theorem ve_callLent {x : Str} {k n : Nat} {ps : List Str} {F : FF} {p : Pos} (D : Def X.prog X.w X.K X.mg X.base x k ps (spV ⟨[], P.tb⟩ n F)) (hr : Room k X.A) (hg : Gl X x) (ha : VM X P (e :: es) gm)
    (hdb : (x == ("__debug__" : Str)) = false := by decide) (he : starEach (e :: es) X.env = (false, eval e X.env) :: starEach es X.env := by rfl) (hpl : (backTo pos (starEach es X.env)).any (·.1) = false := by rfl) :
    VE X P (.Call (.Name x p) (e :: es) [] pos) (eCallB n F gm) := by
  obtain ⟨f, fd, h1, h2, h3, h4, _⟩ := D.ex
  exact PE.weak (pe_call (E := fun _ _ _ => False) h4 hr hg h1 h2 h3 .nil pass0 ha hdb he hpl) tv_callB
end
end VL

namespace VL
open PySem PySem.Spec
open PyProof.Rows L2

/-- no tuple is blocked -/
theorem Ok.notup {P : Pl} {Bf : Bk} {ow : Nat → Option Addr} {en : En} {σ : L2.St} {H : Hp} (k : Ok P Bf ow en σ H) {b : Addr} {xs : List V} (e : H b = some (.tup xs)) : ¬ blk Bf ow b := fun z => by
  have key : nt H b := by
    rcases z with z | ⟨i, z⟩
    · exact k.hbf b z
    · obtain ⟨_, _, _, _, g3⟩ := k.hat z
      exact g3.nt
  obtain ⟨o, h, n⟩ := key
  rw [e] at h
  cases h
  exact n xs rfl
/-! ### what is walked -/
/-- the iterator J gives the items ds, as long as what was reached stands -/
def Wk (J : It) (B : Addr → Prop) (H1 : Hp) (ds : List D) : Prop := ∀ (B' : Addr → Prop) (H : Hp) (i : Nat), (∀ b o, H1 b = some o → NT o → ¬ B b → H b = some o ∧ ¬ B' b) → (∀ p, H p = none → ¬ B' p) → (∀ b o u, H1 b = some (.frz o u) → H b = some (.frz o u)) → (∀ b xs, H b = some (.tup xs) → ¬ B' b) →
  (∀ d, ds[i]? = some d → J.go i H ∧ ∀ x H', J.yld i H x H' → Ext H H' ∧ Rp H' B' d x) ∧ (i = ds.length → J.stop i H)
def tvI (P : Pl) (f : FL) : TI := fun σ H R => ∃ Bf ow en, Ok P Bf ow en σ H ∧ ∃ ds en', f en = some (ds, en') ∧
  ∀ J ow' H', Ok P Bf ow' en' σ H' → Rel P H ow H' ow' → Wk J (blk Bf ow') H' ds → R J H'
def VI (X : Cx) (P : Pl) (tg iter : Expr) (f : FL) : Prop := PI X tg iter (tvI P f)
theorem PI.weak {X : Cx} {tg iter : Expr} {t t' : TI} (h : PI X tg iter t) (w : ∀ σ H R, t' σ H R → t σ H R) : PI X tg iter t' :=
  ⟨fun pins s σ H R I q => h.run pins s σ H R I (w σ H R q)⟩
theorem PI.or {X : Cx} {tg iter : Expr} {t t' : TI} (h : PI X tg iter t) (h' : PI X tg iter t') : PI X tg iter (fun σ H R => t σ H R ∨ t' σ H R) :=
  ⟨fun pins s σ H R I q => q.elim (h.run pins s σ H R I) (h'.run pins s σ H R I)⟩
section
variable {X : Cx} {P : Pl} {a b e tg : Expr} {es : List Expr} {fa fb : FE} {ga : FA} {pos apos cpos p : Pos}
/-- the two ways (a list, a tuple) are parted by the value: both readings evaluate the expression once -/
def iSeq (K : PySem.W.Frag) (t : TE) : TI := fun σ H R => t σ H fun x H1 => ∃ a, x = .ref a ∧ ((∃ xs, SqL K H1 a xs ∧ R (Itl K a) H1) ∨ ∃ xs, SqT K H1 a xs ∧ R (Itt K a) H1)
theorem pi_seq {l : Expr} {tl : TE} (hl : PE X l tl) : PI X tg l (iSeq X.K tl) := by
  refine ⟨fun pins s σ H R I h => ?_⟩
  refine thn (hl.run pins s σ H _ I h) fun v s1 ⟨x, H1, I1, r1, q1⟩ => ?_
  obtain ⟨a, e, q⟩ := q1
  subst e
  cases r1
  rcases q with ⟨xs, hq, q⟩ | ⟨xs, hq, q⟩
  · obtain ⟨its, rv, p, hz⟩ := I1.list hq
    refine wpAny_pyIter_list p.isList ?_
    refine ⟨s1.heap.objs.size, [s1.heap.objs.size], _, _, H1, rfl, I1.kept (t' := s1.toks) fun b o e => Heap.get?_push_of_some _ e, turn_list a _, ⟨_, Heap.get?_push_size _ rfl, rfl, rfl⟩, fun b hb => ?_, q⟩
    have e : b = s1.heap.objs.size := by simpa using hb
    subst e
    exact I1.fpOk (Nat.le_refl _) (I1.hok.fresh (Nat.le_refl _))
  · obtain ⟨its, rv, p, hz⟩ := I1.tuple hq
    refine wpAny_pyIter_tuple (show s1.heap.IsTuple a its.toArray from p) ?_
    refine ⟨s1.heap.objs.size, [s1.heap.objs.size], _, _, H1, rfl, I1.kept (t' := s1.toks) fun b o e => Heap.get?_push_of_some _ e, turn_tuple a _, ⟨_, Heap.get?_push_size _ rfl, rfl, rfl⟩, fun b hb => ?_, q⟩
    have e : b = s1.heap.objs.size := by simpa using hb
    subst e
    exact I1.fpOk (Nat.le_refl _) (I1.hok.fresh (Nat.le_refl _))
def iItems (f : FE) : FL := fun en => match f en with
  | some (.list ds, en1) => some (ds, en1)
  | some (.tuple ds, en1) => some (ds, en1)
  | _ => none
theorem vi_seq (ha : VE X P a fa) : VI X P tg a (iItems fa) := PI.weak (pi_seq ha) fun σ H R h => by
  obtain ⟨Bf, ow, en, k, ds, en', hf, q⟩ := h
  unfold iItems at hf
  split at hf
  · rename_i ds' en1 h1
    cases hf
    refine ⟨Bf, ow, en, k, _, _, h1, fun v ow1 H1 k1 r1 p1 => ?_⟩
    cases p1 with
    | lst nb r rs =>
      refine ⟨_, rfl, .inl ⟨_, .inl r, q _ ow1 H1 k1 r1 fun B' H2 i mv nb' _ _ => ⟨fun d e => ?_, fun e => ?_⟩⟩⟩
      · obtain ⟨v, h2, h3⟩ := rs.get e
        have r2 := Rd.keep r fun o e' t' => (mv _ _ e' t' nb).1
        exact ⟨⟨_, v, .inl r2, h2⟩, fun x H' y => by
          obtain ⟨rfl, y⟩ := y
          have := y _ (.inl r2)
          rw [h2] at this
          cases this
          exact ⟨.refl, h3.move mv⟩⟩
      · exact ⟨_, .inl (Rd.keep r fun o e' t' => (mv _ _ e' t' nb).1), by rw [← rs.length, e]; exact Nat.le_refl _⟩
  · rename_i ds' en1 h1
    cases hf
    refine ⟨Bf, ow, en, k, _, _, h1, fun v ow1 H1 k1 r1 p1 => ?_⟩
    cases p1 with
    | tup nb r rs =>
      refine ⟨_, rfl, .inr ⟨_, SqT.of r, q _ ow1 H1 k1 r1 fun B' H2 i mv nb' _ _ => ⟨fun d e => ?_, fun e => ?_⟩⟩⟩
      · obtain ⟨v, h2, h3⟩ := rs.get e
        have r2 := (mv _ _ r (fun _ z => nomatch z) nb).1
        exact ⟨⟨_, v, SqT.of r2, h2⟩, fun x H' y => by
          obtain ⟨rfl, y⟩ := y
          have := y _ (SqT.of r2)
          rw [h2] at this
          cases this
          exact ⟨.refl, h3.move mv⟩⟩
      · exact ⟨_, SqT.of (mv _ _ r (fun _ z => nomatch z) nb).1, by rw [← rs.length, e]; exact Nat.le_refl _⟩
  · cases hf
def rangeD (lo : Int) (n : Nat) : List D := (List.range n).map fun i => .int (lo + (i : Nat))
theorem wk_range {B : Addr → Prop} {H : Hp} (lo : Int) (n : Nat) : Wk (Itr lo n) B H (rangeD lo n) := fun B' H2 i mv nb _ _ => by
  refine ⟨fun d e => ?_, fun e => ?_⟩
  · unfold rangeD at e
    rw [List.getElem?_map] at e
    by_cases h : i < n
    · rw [List.getElem?_range h] at e
      cases e
      refine ⟨h, fun x H' y => ?_⟩
      obtain ⟨rfl, rfl⟩ := y
      exact ⟨.refl, .int _⟩
    · rw [List.getElem?_eq_none (by simpa using h)] at e
      cases e
  · have e' : i = n := by simpa [rangeD] using e
    show n ≤ i
    omega
def iRange1 (f : FA) : FL := fun en => match f en with
  | some ([.int j], en1) => if -(2 ^ 62) ≤ j ∧ j < 2 ^ 62 then some (rangeD 0 j.toNat, en1) else none
  | _ => none
def iRange2 (f : FA) : FL := fun en => match f en with
  | some ([.int i, .int j], en1) => if -(2 ^ 62) ≤ i ∧ i < 2 ^ 62 ∧ -(2 ^ 62) ≤ j ∧ j < 2 ^ 62 then some (rangeD i (j - i).toNat, en1) else none
  | _ => none
theorem vi_range1 (hg : Gl X "range") (hm : X.mg "range" = none) (ha : VA X P [a] ga) (hs : starEach [a] X.env = [(false, eval a X.env)] := by rfl) : VI X P tg (.Call (.Name "range" p) [a] [] pos) (iRange1 ga) := PI.weak (pi_range1 hg hm ha hs) fun σ H R h => by
  obtain ⟨Bf, ow, en, k, ds, en', hf, q⟩ := h
  unfold iRange1 at hf
  split at hf <;> first | cases hf | skip
  rename_i j en1 h1
  split at hf <;> first | cases hf | skip
  rename_i hj
  exact ⟨Bf, ow, en, k, _, _, h1, fun vs ow1 H1 k1 r1 p1 => by
    cases p1 with
    | cons p p1 =>
      cases p
      cases p1
      exact ⟨j, rfl, hj.1, hj.2, q _ ow1 H1 k1 r1 (wk_range 0 _)⟩⟩
theorem vi_range2 (hg : Gl X "range") (hm : X.mg "range" = none) (ha : VA X P [a, b] ga) (hs : starEach [a, b] X.env = [(false, eval a X.env), (false, eval b X.env)] := by rfl) (hs2 : starEach [b] X.env = [(false, eval b X.env)] := by rfl) :
    VI X P tg (.Call (.Name "range" p) [a, b] [] pos) (iRange2 ga) := PI.weak (pi_range2 hg hm ha hs hs2) fun σ H R h => by
  obtain ⟨Bf, ow, en, k, ds, en', hf, q⟩ := h
  unfold iRange2 at hf
  split at hf <;> first | cases hf | skip
  rename_i i j en1 h1
  split at hf <;> first | cases hf | skip
  rename_i hj
  exact ⟨Bf, ow, en, k, _, _, h1, fun vs ow1 H1 k1 r1 p1 => by
    cases p1 with
    | cons p p1 =>
      cases p
      cases p1 with
      | cons p p1 =>
        cases p
        cases p1
        exact ⟨i, j, rfl, hj, q _ ow1 H1 k1 r1 (wk_range i _)⟩⟩
def zipD : List D → List D → List D
  | x :: xs, y :: ys => .tuple [x, y] :: zipD xs ys
  | _, _ => []
theorem zipD_get : ∀ (xs ys : List D) (i : Nat) (d : D), (zipD xs ys)[i]? = some d → ∃ x y, xs[i]? = some x ∧ ys[i]? = some y ∧ d = .tuple [x, y]
  | x :: xs, y :: ys, 0, d, e => by
    have e' : PyData.tuple [x, y] = d := by simpa [zipD] using e
    exact ⟨x, y, rfl, rfl, e'.symm⟩
  | x :: xs, y :: ys, i + 1, d, e => zipD_get xs ys i d (by simpa [zipD] using e)
  | [], _, _, _, e => by simp [zipD] at e
  | _ :: _, [], _, _, e => by simp [zipD] at e
theorem zipD_len : ∀ (xs ys : List D), (zipD xs ys).length = min xs.length ys.length
  | x :: xs, y :: ys => by simp [zipD, zipD_len xs ys]
  | [], _ => by simp [zipD]
  | _ :: _, [] => by simp [zipD]
def iZipD (f : FA) : FL := fun en => match f en with
  | some ([.list xs, .list ys], en1) => some (zipD xs ys, en1)
  | some ([.tuple xs, .tuple ys], en1) => some (zipD xs ys, en1)
  | _ => none
theorem vi_zip {elts : List Expr} {kk : Nat} {tpos : Pos} (hg : Gl X "zip") (hm : X.mg "zip" = none) (ha : VA X P [a, b] ga)
    (hs : starEach [a, b] X.env = (false, eval a X.env) :: starEach [b] X.env := by rfl) (hpl : (backTo pos (starEach [b] X.env)).any (·.1) = false := by rfl) : VI X P (.Tuple elts kk tpos) (.Call (.Name "zip" p) [a, b] [] pos) (iZipD ga) := PI.weak (RZ.pi_zipA hg hm ha hs hpl) fun σ H R h => by
  obtain ⟨Bf, ow, en, k, ds, en', hf, q⟩ := h
  unfold iZipD at hf
  split at hf
  · rename_i xs ys en1 h1
    cases hf
    refine ⟨Bf, ow, en, k, _, _, h1, fun vs ow1 H1 k1 r1 p1 => ?_⟩
    cases p1 with
    | cons p p1 =>
      cases p1 with
      | cons p2 p1 =>
        cases p1
        cases p with
        | lst n1 d1 s1 =>
          cases p2 with
          | lst n2 d2 s2 =>
            refine ⟨_, _, _, _, rfl, .inl ⟨.inl d1, .inl d2, q _ ow1 H1 k1 r1 fun B' H2 i mv nb' _ _ => ⟨fun d e => ?_, fun e => ?_⟩⟩⟩
            · obtain ⟨x, y, e1, e2, rfl⟩ := zipD_get _ _ _ _ e
              obtain ⟨v1, g1, g2⟩ := s1.get e1
              obtain ⟨v2, g3, g4⟩ := s2.get e2
              have q1 := Rd.keep d1 fun o e' t' => (mv _ _ e' t' n1).1
              have q2 := Rd.keep d2 fun o e' t' => (mv _ _ e' t' n2).1
              refine ⟨⟨_, _, v1, v2, .inl q1, .inl q2, g1, g3⟩, fun x' H' y' => ?_⟩
              obtain ⟨T, u1, u2, rfl, hT, rfl, z1, z2⟩ := y'
              have w1 := z1 _ (.inl q1)
              have w2 := z2 _ (.inl q2)
              rw [g1] at w1
              rw [g3] at w2
              cases w1
              cases w2
              exact ⟨.upd hT, .tup (nb' T hT) upd_same (.cons ((Ext.upd hT).rp (g2.move mv)) (.cons ((Ext.upd hT).rp (g4.move mv)) .nil))⟩
            · refine ⟨_, _, .inl (Rd.keep d1 fun o e' t' => (mv _ _ e' t' n1).1), .inl (Rd.keep d2 fun o e' t' => (mv _ _ e' t' n2).1), ?_⟩
              rw [zipD_len] at e
              rw [← s1.length, ← s2.length]
              omega
  · rename_i xs ys en1 h1
    cases hf
    refine ⟨Bf, ow, en, k, _, _, h1, fun vs ow1 H1 k1 r1 p1 => ?_⟩
    cases p1 with
    | cons p p1 =>
      cases p1 with
      | cons p2 p1 =>
        cases p1
        cases p with
        | tup n1 d1 s1 =>
          cases p2 with
          | tup n2 d2 s2 =>
            refine ⟨_, _, _, _, rfl, .inr ⟨SqT.of d1, SqT.of d2, q _ ow1 H1 k1 r1 fun B' H2 i mv nb' _ _ => ⟨fun d e => ?_, fun e => ?_⟩⟩⟩
            · obtain ⟨x, y, e1, e2, rfl⟩ := zipD_get _ _ _ _ e
              obtain ⟨v1, g1, g2⟩ := s1.get e1
              obtain ⟨v2, g3, g4⟩ := s2.get e2
              have q1 := SqT.of (K := X.K) (mv _ _ d1 (fun _ z => nomatch z) n1).1
              have q2 := SqT.of (K := X.K) (mv _ _ d2 (fun _ z => nomatch z) n2).1
              refine ⟨⟨_, _, v1, v2, q1, q2, g1, g3⟩, fun x' H' y' => ?_⟩
              obtain ⟨T, u1, u2, rfl, hT, rfl, z1, z2⟩ := y'
              have w1 := z1 _ q1
              have w2 := z2 _ q2
              rw [g1] at w1
              rw [g3] at w2
              cases w1
              cases w2
              exact ⟨.upd hT, .tup (nb' T hT) upd_same (.cons ((Ext.upd hT).rp (g2.move mv)) (.cons ((Ext.upd hT).rp (g4.move mv)) .nil))⟩
            · refine ⟨_, _, SqT.of (mv _ _ d1 (fun _ z => nomatch z) n1).1, SqT.of (mv _ _ d2 (fun _ z => nomatch z) n2).1, ?_⟩
              rw [zipD_len] at e
              rw [← s1.length, ← s2.length]
              omega
  · cases hf

/-! ### for -/
def forD (body : D → En → Option Out) : List D → FS
  | [], en => some (.nx en)
  | d :: r, en => match body d en with
    | some (.nx en1) => forD body r en1
    | some (.ct en1) => forD body r en1
    | some (.bk en1) => some (.nx en1)
    | some (.rt v en1) => some (.rt v en1)
    | some (.rf v en1) => some (.rf v en1)
    | some (.rd t v en1) => some (.rd t v en1)
    | none => none
def turnD (g : FG) (f : FS) (d : D) (en : En) : Option Out := match g d en with
  | some en1 => f en1
  | none => none
def sFor (fi : FL) (g : FG) (f : FS) : FS := fun en => match fi en with
  | some (ds, en1) => forD (turnD g f) ds en1
  | none => none
theorem vs_for {iter : Expr} {body : List Stmt} {fi : FL} {g : FG} {f : FS} {ts : List Nat} (hp : PassesOwn (model X.prog X.w) X.A X.env X.xe) (hc : X.calm = true) (hi : VI X P tg iter fi) (hg : VG X P tg ts g) (hb : VB X P body f)
    (hs : ∀ x, foldedSetIterable iter X.env x = pure x := by intro _; rfl) : VS X P (.For tg iter body [] pos) (sFor fi g f) := PS.weak (ps_for hp hc hi hg hb hs) fun Dn σ H h => by
  obtain ⟨Bf, ow, en, k, o, hf, q⟩ := h
  unfold sFor at hf
  split at hf <;> first | cases hf | skip
  rename_i ds en1 h1
  refine ⟨Bf, ow, en, k, ds, en1, h1, fun J ow1 H1 k1 r1 wk => ?_⟩
  let Pv : Nat → L2.St → Hp → Prop := fun i σ' H' => i ≤ ds.length ∧ ∃ ow' en', Ok P Bf ow' en' σ' H' ∧ RelS P H1 ow1 H' ow' ∧ forD (turnD g f) (ds.drop i) en' = some o
  have qo : post P Bf Dn H1 ow1 o := q.trans r1.s
  refine ⟨fun i m σ' H' => m = ds.length - i ∧ Pv i σ' H', ⟨_, rfl, Nat.zero_le _, ow1, en1, k1, .refl, by simpa using hf⟩, ?_⟩
  rintro i m σ2 H2 ⟨rfl, hle, ow2, en2, k2, r2, e2⟩
  have W := wk (blk Bf ow2) H2 i (fun b o e t n => r2.mv b o e t n) (fun p hp => k2.nb hp) r2.hfrz (fun b xs e => k2.notup e)
  by_cases hlt : i < ds.length
  · have ed : ds[i]? = some ds[i] := List.getElem?_eq_getElem hlt
    obtain ⟨w1, w2⟩ := W.1 _ ed
    refine .inr ⟨w1, Pv (i + 1), fun σ' H' p' => ⟨ds.length - (i + 1), by omega, rfl, p'⟩, fun x H3 y => ?_⟩
    obtain ⟨ex, p⟩ := w2 x H3 y
    rw [List.drop_eq_getElem_cons hlt] at e2
    unfold forD turnD at e2
    cases eg : g ds[i] en2 with
    | none => rw [eg] at e2; cases e2
    | some en3 =>
      rw [eg] at e2
      simp only at e2
      refine ⟨Bf, ow2, en2, ds[i], k2.ext ex, p, en3, eg, fun ow3 σ3 k3 r3 _ => ?_⟩
      have r23 : RelS P H1 ow1 H3 ow3 := r2.trans (ex.rel.trans r3).s
      cases ef : f en3 with
      | none => rw [ef] at e2; cases e2
      | some o3 =>
        refine ⟨Bf, ow3, en3, k3, o3, ef, ?_⟩
        rw [ef] at e2
        cases o3 with
        | nx en4 => exact fun ow4 σ4 H4 k4 r4 => ⟨hlt, ow4, en4, k4, r23.trans r4, e2⟩
        | ct en4 => exact fun ow4 σ4 H4 k4 r4 => ⟨hlt, ow4, en4, k4, r23.trans r4, e2⟩
        | bk en4 =>
          cases e2
          exact fun ow4 σ4 H4 k4 r4 => qo ow4 σ4 H4 k4 (r23.trans r4)
        | rt v en4 =>
          cases e2
          exact qo.trans r23
        | rf v en4 =>
          cases e2
          exact qo.trans r23
        | rd t v en4 =>
          cases e2
          exact qo.trans r23
  · have e : i = ds.length := by omega
    subst e
    rw [List.drop_length] at e2
    cases e2
    exact .inl ⟨W.2 rfl, qo ow2 σ2 H2 k2 r2⟩

/-! ### comprehensions -/
def wipeE (en : En) : List Nat → En
  | [] => en
  | v :: vs => (wipeE en vs).set v .un
theorem wipeE_un : ∀ (vs : List Nat) (en : En) (i : Nat), i ∈ vs → ∀ s, (wipeE en vs)[i]? = some s → s = .un
  | [], _, _, h, _, _ => by simp at h
  | v :: vs, en, i, h, s, e => by
    unfold wipeE at e
    by_cases hv : v = i
    · subst hv
      by_cases hl : v < (wipeE en vs).length
      · rw [List.getElem?_set_self hl] at e
        cases e
        rfl
      · rw [List.getElem?_eq_none (by simpa using hl)] at e
        cases e
    · rw [List.getElem?_set_ne hv] at e
      exact wipeE_un vs en i (by
        rcases List.mem_cons.mp h with h | h
        · exact absurd h.symm hv
        · exact h) s e
section
variable {Bf : Bk} {ow : Nat → Option Addr} {en : En} {σ : L2.St} {H : Hp}
/-- a slot is forgotten -/
theorem Ok.forget (k : Ok P Bf ow en σ H) (i : Nat) : Ok P Bf (dropOw ow i) (en.set i .un) (σ.set i none) H := by
  have mv : ∀ b o, H b = some o → NT o → ¬ blk Bf ow b → H b = some o ∧ ¬ blk Bf (dropOw ow i) b := fun b o e t n => ⟨e, fun z => n (dropOw_blk z)⟩
  have mvN : ∀ b o, H b = some o → NT o → ¬ blkN Bf ow b → H b = some o ∧ ¬ blkN Bf (dropOw ow i) b := fun b o e t n => ⟨e, fun z => n (z.elim (fun z => .inl (dropOw_blk z)) .inr)⟩
  refine ⟨by simp [k.hlen], fun j d' e' => ?_, fun j d' e' => ?_, fun j s' e' f => ?_, fun j b e' => ?_, fun j l b e1 e2 => k.hinj j l b (dropOw_sub _ _ e1) (dropOw_sub _ _ e2), k.hbf, k.hod, fun j b e' hj => k.hloc j b (dropOw_sub _ _ e') hj, k.htab⟩
  · by_cases hj : j = i
    · subst hj
      by_cases hl : j < en.length
      · rw [List.getElem?_set_self hl] at e'
        cases e'
      · rw [List.getElem?_eq_none (by simpa using hl)] at e'
        cases e'
    · rw [List.getElem?_set_ne (Ne.symm hj)] at e' ⊢
      obtain ⟨w, h1, h2⟩ := k.hva j d' e'
      exact ⟨w, h1, h2.move mv⟩
  · by_cases hj : j = i
    · subst hj
      by_cases hl : j < en.length
      · rw [List.getElem?_set_self hl] at e'
        cases e'
      · rw [List.getElem?_eq_none (by simpa using hl)] at e'
        cases e'
    · rw [List.getElem?_set_ne (Ne.symm hj)] at e' ⊢
      obtain ⟨w, h1, h2⟩ := k.hvn j d' e'
      exact ⟨w, h1, h2.move mvN⟩
  · by_cases hj : j = i
    · subst hj
      by_cases hl : j < en.length
      · rw [List.getElem?_set_self hl] at e'
        cases e'
        cases f
      · rw [List.getElem?_eq_none (by simpa using hl)] at e'
        cases e'
    · rw [List.getElem?_set_ne (Ne.symm hj)] at e' ⊢
      obtain ⟨b, g1, g2, g3⟩ := k.hob j s' e' f
      exact ⟨b, by unfold dropOw; rw [if_neg hj]; exact g1, g2, g3.move (fun o e _ => e) mv⟩
  · have e2 := dropOw_sub _ _ e'
    unfold dropOw at e'
    split at e'
    · cases e'
    · rename_i hj
      rw [List.getElem?_set_ne (Ne.symm hj)]
      exact k.hdom j b e2
theorem Ok.wipe (k : Ok P Bf ow en σ H) : ∀ (vs : List Nat), (∀ i ∈ vs, i ∉ P) → ∃ ow', Ok P Bf ow' (wipeE en vs) (L2.wipe σ vs) H ∧ Rel P H ow H ow'
  | [], _ => ⟨ow, k, .refl⟩
  | v :: vs, h => by
    obtain ⟨ow', k', r'⟩ := Ok.wipe k vs fun i hi => h i (List.mem_cons_of_mem _ hi)
    exact ⟨_, k'.forget v, r'.trans (dropOw_rel (h v (by simp)))⟩
/-- back to the frame's slots -/
theorem Ok.unwipe {vs : List Nat} (k : Ok P Bf ow en (L2.wipe σ vs) H) (hu : ∀ i ∈ vs, ∀ s, en[i]? = some s → s = .un) : Ok P Bf ow en σ H := by
  have back : ∀ (i : Nat) (v : V), (L2.wipe σ vs)[i]? = some (some v) → σ[i]? = some (some v) := fun i v e => (wipe_some e).1
  exact ⟨by rw [← k.hlen, wipe_length], fun i d e => let ⟨v, h1, h2⟩ := k.hva i d e; ⟨v, back _ _ h1, h2⟩, fun i d e => let ⟨v, h1, h2⟩ := k.hvn i d e; ⟨v, back _ _ h1, h2⟩, fun i s e f => let ⟨a, h1, h2, h3⟩ := k.hob i s e f; ⟨a, h1, back _ _ h2, h3⟩, k.hdom, k.hinj, k.hbf, k.hod, k.hloc, k.htab⟩
end
theorem wipe_get (σ : L2.St) (i : Nat) : ∀ vs : List Nat, (L2.wipe σ vs)[i]? = if i ∈ vs then (σ[i]?).map (fun _ => none) else σ[i]?
  | [] => by simp [L2.wipe]
  | v :: vs => by
    unfold L2.wipe
    have ih := wipe_get σ i vs
    by_cases h : v = i
    · subst h
      rw [if_pos List.mem_cons_self]
      by_cases hl : v < σ.length
      · rw [List.getElem?_set_self (by rw [wipe_length]; exact hl), List.getElem?_eq_getElem hl]
        rfl
      · rw [List.getElem?_eq_none (by rw [List.length_set, wipe_length]; omega), List.getElem?_eq_none (by omega)]
        rfl
    · rw [List.getElem?_set_ne h, ih]
      by_cases hi : i ∈ vs
      · rw [if_pos hi, if_pos (List.mem_cons_of_mem _ hi)]
      · rw [if_neg hi, if_neg (fun z => (List.mem_cons.mp z).elim (fun z => h z.symm) hi)]
theorem wipe_idem (σ : L2.St) (vs : List Nat) : L2.wipe (L2.wipe σ vs) vs = L2.wipe σ vs := by
  apply List.ext_getElem?
  intro i
  rw [wipe_get, wipe_get]
  by_cases h : i ∈ vs
  · rw [if_pos h, if_pos h]
    cases σ[i]? <;> rfl
  · rw [if_neg h, if_neg h]
def compD (g : FG) (tt : FT) (te : FE) (vs : List Nat) : List D → En → List D → Option (List D × En)
  | [], en, acc => some (acc, en)
  | d :: r, en, acc => match g d en with
    | some en1 => match tt en1 with
      | some (true, en2) => match te en2 with
        | some (y, en3) => if acc.length < sizeLine then compD g tt te vs r (wipeE en3 vs) (acc ++ [y]) else none
        | none => none
      | some (false, en2) => compD g tt te vs r (wipeE en2 vs) acc
      | none => none
    | none => none
def lComp (fi : FL) (g : FG) (tt : FT) (te : FE) (vs : List Nat) : FL := fun en => match fi en with
  | some (ds, en1) => compD g tt te vs ds (wipeE en1 vs) []
  | none => none
def tYesV : FT := fun en => some (true, en)
def VTs (X : Cx) (P : Pl) (ifs : List Expr) (f : FT) : Prop := PTs X ifs (tvT P f)
theorem vts_nil : VTs X P [] tYesV := ⟨fun pins s σ H Q I h => by
  obtain ⟨Bf, ow, en, k, b, en', hf, q⟩ := h
  cases hf
  exact pts_nil.run pins s σ H Q I (q ow H k .refl)⟩
theorem vts_one {c : Expr} {t : FT} (h : VT X P c t) : VTs X P [c] t := pts_one h
theorem compD_un {g : FG} {tt : FT} {te : FE} {vs : List Nat} : ∀ (ds : List D) (en : En) (acc out : List D) (en' : En), compD g tt te vs ds en acc = some (out, en') → (∀ i ∈ vs, ∀ s, en[i]? = some s → s = .un) → ∀ i ∈ vs, ∀ s, en'[i]? = some s → s = .un
  | [], en, acc, out, en', e, h => by
    unfold compD at e
    cases e
    exact h
  | d :: r, en, acc, out, en', e, h => by
    unfold compD at e
    split at e <;> first | cases e | skip
    split at e
    · split at e <;> first | cases e | skip
      split at e <;> first | cases e | skip
      exact compD_un r _ _ _ _ e fun i hi s q => wipeE_un vs _ i hi s q
    · exact compD_un r _ _ _ _ e fun i hi s q => wipeE_un vs _ i hi s q
    · cases e
/-- the reading of a comprehension, by data -/
theorem tvF_lc {fi : FL} {g : FG} {tt : FT} {te : FE} {vs ts : List Nat} (hvP : ∀ i ∈ vs, i ∉ P) (hts : ∀ i ∈ ts, i ∈ vs) (σ : L2.St) (H : Hp) (Q : VK) (h : tvF P (lComp fi g tt te vs) σ H Q) : tLc (tvI P fi) (tvG P ts g) (tvT P tt) (tv P te) vs σ H Q := by
  obtain ⟨Bf, ow, en, k, out, en', hf, q⟩ := h
  unfold lComp at hf
  split at hf <;> first | cases hf | skip
  rename_i ds en1 h1
  refine ⟨Bf, ow, en, k, ds, en1, h1, fun J ow1 H1 k1 r1 wk Dd hD => ?_⟩
  obtain ⟨oww, kw, rw⟩ := Ok.wipe k1 vs hvP
  let Pv : Nat → Hp → Prop := fun i H' => i ≤ ds.length ∧ ∃ ow' en2 acc xs, Ok P (insB Bf Dd) ow' en2 (L2.wipe σ vs) H' ∧ Rel P H1 ow1 H' ow' ∧ (∀ j, ow' j ≠ some Dd) ∧ H' Dd = some (.lst xs) ∧ RpL H' (blk (insB Bf Dd) ow') acc xs ∧
    (∀ i ∈ vs, ∀ s, en2[i]? = some s → s = .un) ∧ compD g tt te vs (ds.drop i) en2 acc = some (out, en')
  have npD := kw.nb hD
  refine ⟨fun i m H' => m = ds.length - i ∧ Pv i H', ⟨_, rfl, Nat.zero_le _, oww, _, [], [], kw.avoid hD, rw.trans (Ext.upd hD).rel, fun j z => npD (.inr ⟨j, z⟩), upd_same, .nil, fun i hi s e => wipeE_un vs en1 i hi s e, by simpa using hf⟩, ?_⟩
  rintro i m H2 ⟨rfl, hle, ow2, en2, acc, xs, k2, r2, nD, eD, rs, un2, e2⟩
  have mv2 : ∀ b o, H1 b = some o → NT o → ¬ blk Bf ow1 b → H2 b = some o ∧ ¬ blk (insB Bf Dd) ow2 b := fun b o e t n => by
    obtain ⟨z1, z2⟩ := r2.mv (Bf := Bf) b o e t n
    refine ⟨z1, fun z => ?_⟩
    rcases insB_blk z with z | z
    · exact z2 z
    · subst z
      rw [hD] at e
      cases e
  have W := wk (blk (insB Bf Dd) ow2) H2 i mv2 (fun p hp => k2.nb hp) r2.hfrz (fun b xs e => k2.notup e)
  by_cases hlt : i < ds.length
  · have ed : ds[i]? = some ds[i] := List.getElem?_eq_getElem hlt
    obtain ⟨w1, w2⟩ := W.1 _ ed
    refine .inr ⟨w1, Pv (i + 1), fun H' p' => ⟨ds.length - (i + 1), by omega, rfl, p'⟩, fun x H3 y => ?_⟩
    obtain ⟨ex, p⟩ := w2 x H3 y
    rw [List.drop_eq_getElem_cons hlt] at e2
    unfold compD at e2
    cases eg : g ds[i] en2 with
    | none => rw [eg] at e2; cases e2
    | some en3 =>
      rw [eg] at e2
      simp only at e2
      refine ⟨insB Bf Dd, ow2, en2, ds[i], k2.ext ex, p, en3, eg, fun ow3 σ3 k3 r3 w3' => ?_⟩
      have w3 : L2.wipe σ3 vs = L2.wipe σ vs := (w3' vs hts).trans (wipe_idem σ vs)
      refine ⟨w3, ?_⟩
      have r13 : Rel P H1 ow1 H3 ow3 := r2.trans (ex.rel.trans r3)
      have nD3 : ∀ j, ow3 j ≠ some Dd := fun j z => nD j (r3.hsub j _ z)
      cases et : tt en3 with
      | none => rw [et] at e2; cases e2
      | some bt =>
        obtain ⟨b, en4⟩ := bt
        rw [et] at e2
        refine ⟨insB Bf Dd, ow3, en3, k3, b, en4, et, fun ow4 H4 k4 r4 => ?_⟩
        have eD4 : H4 Dd = some (.lst xs) := (r4.hkeep Dd _ (ex _ _ eD) (fun _ z => nomatch z) nD3).1
        have nD4 : ∀ j, ow4 j ≠ some Dd := fun j z => nD3 j (r4.hsub j _ z)
        have rs4 : RpL H4 (blk (insB Bf Dd) ow4) acc xs := (ex.rel.trans (r3.trans r4)).rpl rs
        cases b with
        | false =>
          simp only at e2
          change Pv (i + 1) H4
          obtain ⟨ow5, k5, r5⟩ := Ok.wipe k4 vs hvP
          rw [w3] at k5
          exact ⟨hlt, ow5, _, acc, xs, k5, (r13.trans r4).trans r5, fun j z => nD4 j (r5.hsub j _ z), eD4, r5.rpl rs4, fun i hi s e => wipeE_un vs _ i hi s e, e2⟩
        | true =>
          simp only at e2
          refine (show tv P te σ3 H4 _ from ?_)
          cases ee : te en4 with
          | none => rw [ee] at e2; cases e2
          | some yt =>
            obtain ⟨yd, en5⟩ := yt
            rw [ee] at e2
            simp only at e2
            split at e2 <;> first | cases e2 | skip
            rename_i hz
            refine ⟨insB Bf Dd, ow4, en4, k4, yd, en5, ee, fun v ow5 H5 k5 r5 p5 => ?_⟩
            have eD5 : H5 Dd = some (.lst xs) := (r5.hkeep Dd _ eD4 (fun _ z => nomatch z) nD4).1
            have nD5 : ∀ j, ow5 j ≠ some Dd := fun j z => nD4 j (r5.hsub j _ z)
            have rs5 := r5.rpl rs4
            refine ⟨xs, eD5, by rw [← rs4.length]; exact hz, ?_⟩
            -- the new list is written: nothing reaches it
            have mvD : ∀ (B : Nat → Option Addr), (∀ j, B j ≠ some Dd) → ∀ b o, H5 b = some o → NT o → ¬ blk (insB Bf Dd) B b → upd H5 Dd (.lst (xs ++ [v])) b = some o ∧ ¬ blk (insB Bf Dd) B b := fun B _ b o e t n =>
              ⟨by rw [upd_ne fun z => n (.inl (.inr z))]; exact e, n⟩
            have smD : ∀ b, H5 b ≠ none → upd H5 Dd (.lst (xs ++ [v])) b ≠ none := fun b hb => by
              by_cases z : b = Dd
              · rw [z, upd_same]
                exact fun z => nomatch z
              · rw [upd_ne z]
                exact hb
            have ntD : ∀ b, nt H5 b → nt (upd H5 Dd (.lst (xs ++ [v]))) b := fun b ⟨u, e, n⟩ => by
              by_cases z : b = Dd
              · rw [z]
                exact ⟨_, upd_same, fun _ z => nomatch z⟩
              · exact ⟨u, by rw [upd_ne z]; exact e, n⟩
            have k6 : Ok P (insB Bf Dd) ow5 en5 σ3 (upd H5 Dd (.lst (xs ++ [v]))) :=
              ⟨k5.hlen, fun i d e => let ⟨w, g1, g2⟩ := k5.hva i d e; ⟨w, g1, g2.move (mvD ow5 nD5)⟩, fun i d e => let ⟨w, g1, g2⟩ := k5.hvn i d e; ⟨w, g1, g2.move fun b o e t n => ⟨(mvD ow5 nD5 b o e t fun z => n (.inl z)).1, n⟩⟩, fun i s e f => let ⟨a, g1, g2, g3⟩ := k5.hob i s e f; ⟨a, g1, g2, g3.move (fun o e _ => by rw [upd_ne fun z => nD5 i (by rw [← z]; exact g1)]; exact e) (mvD ow5 nD5)⟩,
                k5.hdom, k5.hinj, fun b z => ntD b (k5.hbf b z), fun b z => smD b (k5.hod b z), k5.hloc, tabs_upd k5.htab eD5 (fun _ z => nomatch z) fun _ z => nomatch z⟩
            have r6 : Rel P H1 ow1 (upd H5 Dd (.lst (xs ++ [v]))) ow5 := by
              have r15 := (r13.trans r4).trans r5
              exact ⟨fun b o e t n => ⟨by
                rw [upd_ne fun z => by rw [z, hD] at e; cases e]
                exact (r15.hkeep b o e t n).1, (r15.hkeep b o e t n).2⟩, fun b hb => smD b (r15.hsome b hb), r15.hpin, r15.hsub, fun b o u e => by
                rw [upd_ne fun z => by rw [z, hD] at e; cases e]
                exact r15.hfrz b o u e, fun b e => ntD b (r15.hnt b e)⟩
            obtain ⟨ow7, k7, r7⟩ := Ok.wipe k6 vs hvP
            rw [w3] at k7
            exact ⟨hlt, ow7, _, _, _, k7, r6.trans r7, fun j z => nD5 j (r7.hsub j _ z), upd_same, r7.rpl ((rs5.append (.cons p5 .nil)).move (mvD ow5 nD5)), fun i hi s e => wipeE_un vs _ i hi s e, e2⟩
  · have e : i = ds.length := by omega
    subst e
    rw [List.drop_length] at e2
    cases e2
    refine .inl ⟨W.2 rfl, ?_⟩
    have hD0 : H Dd = none := by
      cases z : H Dd with
      | none => rfl
      | some o => exact absurd hD (r1.hsome Dd (by rw [z]; exact fun z => nomatch z))
    have nb0 := k1.nb hD
    exact q Dd xs ow2 H2 (k2.unwipe un2) (r1.trans r2) (fun z => nb0 (.inl z)) (fun z => k1.hod Dd z hD) nD hD0 eD rs
end
end VL

namespace VL
open PySem PySem.Spec
open PyProof.Rows L2

section
variable {X : Cx} {P : Pl} {a b e elt tg iter : Expr} {es ifs : List Expr} {fa fb : FE} {ga : FA} {pos apos cpos p : Pos} {scope : Scope} {own : List (Str × Nat)}
/-! ### comprehensions: as a value, as what a name gets -/
theorem vf_lc {fi : FL} {g : FG} {tt : FT} {te : FE} {ts vs : List Nat} (hc : X.calm = true) (hN : X.N.Nodup) (hi : VI X P tg iter fi) (ok : BlkOk X.N X.env.scope scope own)
    (hvs : own.map (·.2) = vs) (hvP : ∀ i ∈ vs, i ∉ P) (hts : ∀ i ∈ ts, i ∈ vs)
    (hg : ∀ (s : Shared) (H : Hp) (C : Addr) (cl : List (Str × Addr)) (fp : List Addr), VG (X.blk s H scope (compEnvC scope cl C X.env) fp) P tg ts g) (ht : ∀ (s : Shared) (H : Hp) (C : Addr) (cl : List (Str × Addr)) (fp : List Addr), VTs (X.blk s H scope (compEnvC scope cl C X.env) fp) P ifs tt)
    (he : ∀ (s : Shared) (H : Hp) (C : Addr) (cl : List (Str × Addr)) (fp : List Addr), VE (X.blk s H scope (compEnvC scope cl C X.env) fp) P elt te) (hs : ∀ x, foldedSetIterable iter X.env x = pure x := by intro _; rfl) :
    VF X P (.ListComp elt [⟨tg, iter, ifs, 0⟩] scope pos) (lComp fi g tt te vs) :=
  PE.weak (pe_lc hc hN hi ok hg ht he hs) (by rw [hvs]; exact tvF_lc hvP hts)
theorem own_reads {f : FL} {t : TE} {i : Nat} (hP : i ∉ P) (w : ∀ σ H Q, tvF P f σ H Q → t σ H Q) (Dn : Ends) (σ : L2.St) (H : Hp) (h : tvS P (sOwn i f) Dn σ H) : tAsg t (gName i) Dn σ H := by
  refine w σ H _ ?_
  obtain ⟨Bf, ow, en, k, o, hf, q⟩ := h
  unfold sOwn at hf
  split at hf <;> first | cases hf | skip
  rename_i ds en1 h1
  split at hf <;> first | cases hf | skip
  rename_i hl
  exact ⟨Bf, ow, en, k, _, _, h1, fun p xs ow1 H1 k1 r1 b1 b2 b3 b4 hp rs => q _ _ _ (k1.put hP hl b1 b2 b3 hp rs) (put_rel hP r1 b4)⟩
theorem set_reads {f : FL} {t : TE} {i : Nat} (hP : i ∉ P) (w : ∀ σ H Q, tvF P f σ H Q → t σ H Q) (Dn : Ends) (σ : L2.St) (H : Hp) (h : tvS P (sSet i (eNew f)) Dn σ H) : tAsg t (gName i) Dn σ H := by
  refine w σ H _ ?_
  obtain ⟨Bf, ow, en, k, o, hf, q⟩ := h
  unfold sSet eNew at hf
  cases h0 : f en with
  | none => rw [h0] at hf; cases hf
  | some r =>
    obtain ⟨ds, en1⟩ := r
    rw [h0] at hf
    simp only at hf
    cases hf
    refine ⟨Bf, ow, en, k, ds, en1, h0, fun p xs ow1 H1 k1 r1 b1 b2 b3 b4 hp rs => ?_⟩
    have p1 : Rp H1 (blk Bf ow1) (.list ds) (.ref p) := .lst (new_nb b1 b3) (.inl hp) rs.unins
    have p2 := p1.move (H' := H1) (B' := blk Bf (dropOw ow1 i)) fun b o e t n => ⟨e, fun z => n (dropOw_blk z)⟩
    exact q _ _ _ (k1.unins.set hP p2) (r1.trans (dropOw_rel hP)).s
section
variable {fi : FL} {g : FG} {tt : FT} {te : FE} {ts vs : List Nat} {i : Nat} {y : Str} {py spos : Pos}
theorem vs_ownLc (hc : X.calm = true) (hN : X.N.Nodup) (hy : X.N[i]? = some y) (hyl : X.env.scope.names.lookup y = some .local) (hP : i ∉ P)
    (hsw : swapsWith (.ListComp elt [⟨tg, iter, ifs, 0⟩] scope pos) (some (.Name y py)) spos.line X.env = pure true) (hi : VI X P tg iter fi) (ok : BlkOk X.N X.env.scope scope own)
    (hvs : own.map (·.2) = vs) (hvP : ∀ i ∈ vs, i ∉ P) (hts : ∀ i ∈ ts, i ∈ vs)
    (hg : ∀ (s : Shared) (H : Hp) (C : Addr) (cl : List (Str × Addr)) (fp : List Addr), VG (X.blk s H scope (compEnvC scope cl C X.env) fp) P tg ts g) (ht : ∀ (s : Shared) (H : Hp) (C : Addr) (cl : List (Str × Addr)) (fp : List Addr), VTs (X.blk s H scope (compEnvC scope cl C X.env) fp) P ifs tt)
    (he : ∀ (s : Shared) (H : Hp) (C : Addr) (cl : List (Str × Addr)) (fp : List Addr), VE (X.blk s H scope (compEnvC scope cl C X.env) fp) P elt te) (hs : ∀ x, foldedSetIterable iter X.env x = pure x := by intro _; rfl) :
    VS X P (.Assign [.Name y py] (.ListComp elt [⟨tg, iter, ifs, 0⟩] scope pos) spos) (sOwn i (lComp fi g tt te vs)) :=
  PS.weak (ps_setLc hc hN hy hyl hsw hi ok hg ht he hs) (own_reads hP (by rw [hvs]; exact tvF_lc hvP hts))
theorem vs_setLc (hc : X.calm = true) (hN : X.N.Nodup) (hy : X.N[i]? = some y) (hyl : X.env.scope.names.lookup y = some .local) (hP : i ∉ P)
    (hsw : swapsWith (.ListComp elt [⟨tg, iter, ifs, 0⟩] scope pos) (some (.Name y py)) spos.line X.env = pure true) (hi : VI X P tg iter fi) (ok : BlkOk X.N X.env.scope scope own)
    (hvs : own.map (·.2) = vs) (hvP : ∀ i ∈ vs, i ∉ P) (hts : ∀ i ∈ ts, i ∈ vs)
    (hg : ∀ (s : Shared) (H : Hp) (C : Addr) (cl : List (Str × Addr)) (fp : List Addr), VG (X.blk s H scope (compEnvC scope cl C X.env) fp) P tg ts g) (ht : ∀ (s : Shared) (H : Hp) (C : Addr) (cl : List (Str × Addr)) (fp : List Addr), VTs (X.blk s H scope (compEnvC scope cl C X.env) fp) P ifs tt)
    (he : ∀ (s : Shared) (H : Hp) (C : Addr) (cl : List (Str × Addr)) (fp : List Addr), VE (X.blk s H scope (compEnvC scope cl C X.env) fp) P elt te) (hs : ∀ x, foldedSetIterable iter X.env x = pure x := by intro _; rfl) :
    VS X P (.Assign [.Name y py] (.ListComp elt [⟨tg, iter, ifs, 0⟩] scope pos) spos) (sSet i (eNew (lComp fi g tt te vs))) :=
  PS.weak (ps_setLc hc hN hy hyl hsw hi ok hg ht he hs) (set_reads hP (by rw [hvs]; exact tvF_lc hvP hts))
end

/-! ### built-ins by data -/
def gLen : List D → Option D
  | [.list xs] => some (.int xs.length)
  | [.tuple xs] => some (.int xs.length)
  | [.str y] => if y.length ≤ sizeLine then some (.int y.length) else none
  | _ => none
theorem ca_len {K : PySem.W.Frag} : CaV (fun xs H Q => ∃ x n, xs = [x] ∧ LenV K x H n ∧ Q (.int n) H) gLen := by
  intro H B ds d vs Q e r nb q
  unfold gLen at e
  split at e
  · cases e
    cases r with
    | cons p r =>
      cases r
      cases p with
      | lst n1 d1 s1 => exact ⟨_, _, rfl, .inl ⟨_, .inl d1, rfl⟩, q _ H .refl (by rw [← s1.length]; exact .int _)⟩
  · cases e
    cases r with
    | cons p r =>
      cases r
      cases p with
      | tup n1 d1 s1 => exact ⟨_, _, rfl, .inr ⟨_, SqT.of d1, rfl⟩, q _ H .refl (by rw [← s1.length]; exact .int _)⟩
  · split at e <;> first | cases e | skip
    rename_i hy
    cases r with
    | cons p r =>
      cases r
      cases p
      exact ⟨_, _, rfl, ⟨hy, rfl⟩, q _ H .refl (.int _)⟩
  · cases e
def gMax2 : List D → Option D
  | [.int i, .int j] => some (.int (if j > i then j else i))
  | _ => none
def gMin2 : List D → Option D
  | [.int i, .int j] => some (.int (if j < i then j else i))
  | _ => none
theorem ca_max2 : CaV (fun xs H Q => ∃ i j, xs = [.int i, .int j] ∧ Q (.int (if j > i then j else i)) H) gMax2 := by
  intro H B ds d vs Q e r nb q
  unfold gMax2 at e
  split at e <;> first | cases e | skip
  cases r with
  | cons p r =>
    cases r with
    | cons p2 r =>
      cases r
      cases p
      cases p2
      exact ⟨_, _, rfl, q _ H .refl (.int _)⟩
theorem ca_min2 : CaV (fun xs H Q => ∃ i j, xs = [.int i, .int j] ∧ Q (.int (if j < i then j else i)) H) gMin2 := by
  intro H B ds d vs Q e r nb q
  unfold gMin2 at e
  split at e <;> first | cases e | skip
  cases r with
  | cons p r =>
    cases r with
    | cons p2 r =>
      cases r
      cases p
      cases p2
      exact ⟨_, _, rfl, q _ H .refl (.int _)⟩
def gInt : List D → Option D
  | [.int i] => some (.int i)
  | [.bool b] => some (.int (if b then 1 else 0))
  | _ => none
theorem ca_int : CaV (fun xs H Q => (∃ i, xs = [V.int i] ∧ Q (.int i) H) ∨ ∃ k, xs = [V.bl k] ∧ Q (.int (if k then 1 else 0)) H) gInt := by
  intro H B ds d vs Q e r nb q
  unfold gInt at e
  split at e
  · cases e
    cases r with
    | cons p r =>
      cases r
      cases p
      exact .inl ⟨_, rfl, q _ H .refl (.int _)⟩
  · cases e
    cases r with
    | cons p r =>
      cases r
      cases p
      exact .inr ⟨_, rfl, q _ H .refl (.int _)⟩
  · cases e
def gStr : List D → Option D
  | [.int i] => if i.natAbs.log2 < 1920 then some (.str (toString i)) else none
  | _ => none
theorem ca_str : CaV (fun xs H Q => ∃ i : Int, xs = [V.int i] ∧ i.natAbs.log2 < 1920 ∧ Q (.str (toString i)) H) gStr := by
  intro H B ds d vs Q e r nb q
  unfold gStr at e
  split at e <;> first | cases e | skip
  split at e <;> first | cases e | skip
  rename_i h
  cases r with
  | cons p r =>
    cases r
    cases p
    exact ⟨_, rfl, h, q _ H .refl (.str _)⟩
def gSum : List D → Option D
  | [.list xs] => match intsOf xs with
    | some ns => some (.int ns.sum)
    | none => none
  | _ => none
theorem ca_sum {K : PySem.W.Frag} : CaV (rSum K) gSum := by
  intro H B ds d vs Q e r nb q
  unfold gSum at e
  split at e <;> first | cases e | skip
  split at e <;> first | cases e | skip
  rename_i ns h
  have := intsOf_eq h
  subst this
  cases r with
  | cons p r =>
    cases r
    cases p with
    | lst n1 d1 s1 =>
      have := s1.ints
      subst this
      exact ⟨_, ns, rfl, .inl d1, q _ H .refl (.int _)⟩
def boolsOf : List D → Option (List Bool)
  | [] => some []
  | .bool i :: r => (boolsOf r).map (i :: ·)
  | _ => none
theorem boolsOf_eq : ∀ {ds : List D} {ns : List Bool}, boolsOf ds = some ns → ds = ns.map .bool
  | [], ns, h => by cases h; rfl
  | .bool i :: r, ns, h => by
    cases e : boolsOf r with
    | none => simp [boolsOf, e] at h
    | some ms =>
      simp [boolsOf, e] at h
      subst h
      rw [boolsOf_eq e]
      rfl
  | .none :: r, _, h => by simp [boolsOf] at h
  | .int _ :: r, _, h => by simp [boolsOf] at h
  | .str _ :: r, _, h => by simp [boolsOf] at h
  | .list _ :: r, _, h => by simp [boolsOf] at h
  | .tuple _ :: r, _, h => by simp [boolsOf] at h
  | .dict _ :: r, _, h => by simp [boolsOf] at h
theorem boolsOf_map : ∀ ns : List Bool, boolsOf (ns.map .bool) = some ns
  | [] => rfl
  | n :: ns => by simp [boolsOf, boolsOf_map ns]
def gAll : List D → Option D
  | [.list xs] => match boolsOf xs with
    | some ns => some (.bool (ns.all id))
    | none => none
  | _ => none
def gAny : List D → Option D
  | [.list xs] => match boolsOf xs with
    | some ns => some (.bool (ns.any id))
    | none => none
  | _ => none
theorem ca_all {K : PySem.W.Frag} : CaV (rAll K) gAll := by
  intro H B ds d vs Q e r nb q
  unfold gAll at e
  split at e <;> first | cases e | skip
  split at e <;> first | cases e | skip
  rename_i ns h
  have := boolsOf_eq h
  subst this
  cases r with
  | cons p r =>
    cases r
    cases p with
    | lst n1 d1 s1 =>
      have := s1.bools
      subst this
      exact ⟨_, ns, rfl, .inl d1, q _ H .refl (.bl _)⟩
theorem ca_any {K : PySem.W.Frag} : CaV (rAny K) gAny := by
  intro H B ds d vs Q e r nb q
  unfold gAny at e
  split at e <;> first | cases e | skip
  split at e <;> first | cases e | skip
  rename_i ns h
  have := boolsOf_eq h
  subst this
  cases r with
  | cons p r =>
    cases r
    cases p with
    | lst n1 d1 s1 =>
      have := s1.bools
      subst this
      exact ⟨_, ns, rfl, .inl d1, q _ H .refl (.bl _)⟩
def gListOf : List D → Option (List D)
  | [.list xs] => some xs
  | [.tuple xs] => some xs
  | _ => none
theorem ca_list {K : PySem.W.Frag} : CaL (fun xs H Q => ∃ p ys, xs = [V.ref p] ∧ (SqL K H p ys ∨ SqT K H p ys) ∧ ∀ l, H l = none → Q (.ref l) (upd H l (.lst ys))) gListOf := by
  intro H B ds d vs Q e r q
  unfold gListOf at e
  split at e
  · cases e
    cases r with
    | cons p r =>
      cases r
      cases p with
      | lst n1 d1 s1 => exact ⟨_, _, rfl, .inl (.inl d1), fun l hl => q l _ hl s1⟩
  · cases e
    cases r with
    | cons p r =>
      cases r
      cases p with
      | tup n1 d1 s1 => exact ⟨_, _, rfl, .inr (SqT.of d1), fun l hl => q l _ hl s1⟩
  · cases e
def gTupOf : List D → Option D
  | [.list xs] => some (.tuple xs)
  | [.tuple xs] => some (.tuple xs)
  | _ => none
theorem ca_tuple {K : PySem.W.Frag} : CaV (fun xs H Q => ∃ p ys, xs = [V.ref p] ∧ ((SqL K H p ys ∧ ∀ l, H l = none → Q (.ref l) (upd H l (.tup ys))) ∨ (SqT K H p ys ∧ Q (.ref p) H))) gTupOf := by
  intro H B ds d vs Q e r nb q
  unfold gTupOf at e
  split at e
  · cases e
    cases r with
    | cons p r =>
      cases r
      cases p with
      | lst n1 d1 s1 => exact ⟨_, _, rfl, .inl ⟨.inl d1, fun l hl => q _ _ (.upd hl) (.tup (nb l hl) upd_same ((Ext.upd hl).rpl s1))⟩⟩
  · cases e
    cases r with
    | cons p r =>
      cases r
      cases p with
      | tup n1 d1 s1 => exact ⟨_, _, rfl, .inr ⟨SqT.of d1, q _ H .refl (.tup n1 d1 s1)⟩⟩
  · cases e

/-! ### slices of lists and tuples -/
def cutD (xs : List D) (lo hi : Option Int) : List D := (xs.drop (HT.sIx xs.length 0 lo)).take (HT.sIx xs.length xs.length hi - HT.sIx xs.length 0 lo)
abbrev FO := En → Option (Option Int × En)
def tvO (P : Pl) (f : FO) : TO := fun σ H Q => ∃ Bf ow en, Ok P Bf ow en σ H ∧ ∃ o en', f en = some (o, en') ∧ ∀ ow' H', Ok P Bf ow' en' σ H' → Rel P H ow H' ow' → Q o H'
def VO (X : Cx) (P : Pl) (e : Option Expr) (f : FO) : Prop := PO X e (tvO P f)
def oNone : FO := fun en => some (none, en)
def oSome (f : FE) : FO := fun en => match f en with
  | some (.int i, en1) => some (some i, en1)
  | _ => none
theorem PO.weak {e : Option Expr} {t t' : TO} (h : PO X e t) (w : ∀ σ H Q, t' σ H Q → t σ H Q) : PO X e t' :=
  ⟨fun pins s σ H Q I q => h.run pins s σ H Q I (w σ H Q q)⟩
theorem vo_none : VO X P none oNone := PO.weak po_none fun σ H Q h => by
  obtain ⟨Bf, ow, en, k, o, en', hf, q⟩ := h
  cases hf
  exact q ow H k .refl
theorem vo_some (h : VE X P e fa) : VO X P (some e) (oSome fa) := PO.weak (po_some h) fun σ H Q h => by
  obtain ⟨Bf, ow, en, k, o, en', hf, q⟩ := h
  unfold oSome at hf
  split at hf <;> first | cases hf | skip
  rename_i i h1
  exact ⟨Bf, ow, en, k, _, _, h1, fun v ow1 H1 k1 r1 p1 => by
    cases p1
    exact ⟨_, rfl, q ow1 H1 k1 r1⟩⟩
theorem RpL.cut {H : Hp} {B : Addr → Prop} {ds : List D} {xs : List V} (rs : RpL H B ds xs) (lo hi : Option Int) : RpL H B (cutD ds lo hi) (cutV xs lo hi) := by
  unfold cutD cutV
  rw [← rs.length]
  exact (rs.drop _).take _
def sliceD : D → Option Int → Option Int → Option D
  | .list xs, lo, hi => some (.list (cutD xs lo hi))
  | .tuple xs, lo, hi => if (cutD xs lo hi).length < xs.length then some (.tuple (cutD xs lo hi)) else none
  | _, _, _ => none
def eSl (f : FE) (fl fh : FO) : FE := fun en => match f en with
  | some (d, en1) => match fl en1 with
    | some (lo, en2) => match fh en2 with
      | some (hi, en3) => match sliceD d lo hi with
        | some z => some (z, en3)
        | none => none
      | none => none
    | none => none
  | none => none
theorem sIx_full {α : Type} (xs : List α) (lo hi : Option Int) (h1 : HT.sIx xs.length 0 lo = 0) (h2 : HT.sIx xs.length xs.length hi = xs.length) : (xs.drop (HT.sIx xs.length 0 lo)).take (HT.sIx xs.length xs.length hi - HT.sIx xs.length 0 lo) = xs := by
  rw [h1, h2]
  simp
theorem ve_slice {lo hi : Option Expr} {fl fh : FO} {p2 : Pos} (he : VE X P e fa) (hl : VO X P lo fl) (hu : VO X P hi fh) : VE X P (.Subscript e (.Slice lo hi none p2) pos) (eSl fa fl fh) :=
  PE.weak (pe_slice (sl_list.or sl_tup) he hl hu) fun σ H Q h => by
    obtain ⟨Bf, ow, en, k, d, en', hf, q⟩ := h
    unfold eSl at hf
    split at hf <;> first | cases hf | skip
    rename_i d0 en1 h0
    split at hf <;> first | cases hf | skip
    rename_i lo' en2 h1
    split at hf <;> first | cases hf | skip
    rename_i hi' en3 h2
    split at hf <;> first | cases hf | skip
    rename_i z h3
    refine ⟨Bf, ow, en, k, _, _, h0, fun v ow1 H1 k1 r1 p1 => ⟨Bf, ow1, en1, k1, _, _, h1, fun ow2 H2 k2 r2 => ⟨Bf, ow2, en2, k2, _, _, h2, fun ow3 H3 k3 r3 => ?_⟩⟩⟩
    have p3 := r3.rp (r2.rp p1)
    unfold sliceD at h3
    split at h3
    · cases h3
      cases p3 with
      | lst nb rd rs =>
        refine .inl ⟨_, _, rfl, .inl rd, fun pp hp => ?_⟩
        have rc := rs.cut lo' hi'
        exact q _ ow3 _ (k3.ext (.upd hp)) ((r1.trans (r2.trans r3)).trans (Ext.upd hp).rel) (.lst (k3.nb hp) (.inl upd_same) ((Ext.upd hp).rpl rc))
    · split at h3 <;> first | cases h3 | skip
      rename_i hlt
      cases p3 with
      | tup nb rd rs =>
        refine .inr ⟨_, _, rfl, SqT.of rd, ?_, fun pp hp => ?_⟩
        · rintro ⟨z1, z2⟩
          rw [← rs.length] at z1 z2
          unfold cutD at hlt
          rw [sIx_full _ lo' hi' z1 z2] at hlt
          exact Nat.lt_irrefl _ hlt
        · have rc := rs.cut lo' hi'
          exact q _ ow3 _ (k3.ext (.upd hp)) ((r1.trans (r2.trans r3)).trans (Ext.upd hp).rel) (.tup (k3.nb hp) upd_same ((Ext.upd hp).rpl rc))
    · cases h3

/-! ### isinstance, type -/
def tyNames : List String := ["NoneType", "int", "bool", "str", "list", "tuple", "dict"]
def typD : D → String
  | .none => "NoneType"
  | .bool _ => "bool"
  | .int _ => "int"
  | .str _ => "str"
  | .list _ => "list"
  | .tuple _ => "tuple"
  | .dict _ => "dict"
def isiD (d : D) (T : String) : Bool := decide (typD d = T) || (decide (typD d = "bool") && decide (T = "int"))
theorem Rp.tyx {K : PySem.W.Frag} {H : Hp} {B : Addr → Prop} {d : D} {v : V} (r : Rp H B d v) : TyX K H v (.type (typD d)) := by
  cases r with
  | non => exact .base .non
  | bl b => exact .base (.bl b)
  | int i => exact .base (.int i)
  | str x => exact .base (.str x)
  | lst nb rd rs =>
    rcases rd with rd | ⟨o, rd⟩
    · exact .base (.lst rd)
    · exact .base (.frz rd)
  | tup nb rd rs => exact .base (.tup rd)
def isT : List String := ["int", "bool", "str", "list", "tuple"]
theorem kit_names {a T : String} (ha : a ∈ tyNames) (hT : T ∈ isT) : kitB a T = some (decide (a = T) || (decide (a = "bool") && decide (T = "int"))) := by
  unfold isT at hT
  unfold tyNames at ha
  simp only [List.mem_cons, List.not_mem_nil, or_false] at hT ha
  rcases ha with rfl | rfl | rfl | rfl | rfl | rfl | rfl <;> rcases hT with rfl | rfl | rfl | rfl | rfl <;> decide +kernel
theorem typD_in (d : D) : typD d ∈ tyNames := by cases d <;> simp [typD, tyNames]
theorem kit_all {K : PySem.W.Frag} {d : D} {T : String} (hT : T ∈ isT) : PySem.W.kitOne K (.type (typD d)) (.type T) = some (isiD d T) := kit_ty (kit_names (typD_in d) hT)
def eIsi (T : String) (f : FE) : FE := fun en => match f en with
  | some (d, en1) => some (.bool (isiD d T), en1)
  | none => none
theorem ve_isi {T : String} {x : Str} {p1 p2 : Pos} (hT : T ∈ isT) (hg : Gl X "isinstance") (hm : X.mg "isinstance" = none) (hgT : Gl X x) (hmT : X.mg x = none) (hbT : bootBuiltins x = some (.type T)) (he : VE X P e fa)
    (hnT : x ≠ "__name__" := by decide) (hdT : (x == ("__debug__" : Str)) = false := by decide)
    (hst : starEach [e, .Name x p2] X.env = (false, eval e X.env) :: starEach [.Name x p2] X.env := by rfl) (hst2 : starEach [.Name x p2] X.env = (false, eval (.Name x p2) X.env) :: starEach [] X.env := by rfl) (hpl : (backTo pos (starEach [.Name x p2] X.env)).any (·.1) = false := by rfl) :
    VE X P (.Call (.Name "isinstance" p1) [e, .Name x p2] [] pos) (eIsi T fa) :=
  PE.weak (pe_callB call_isi hg hm (by decide +kernel) (pa_cons he (pa_cons (pe_bltn (v := .ty T) hgT hmT hbT rfl hnT hdT) pa_nil hst2) hst) (by decide) (by decide) hst hpl) fun σ H Q h => by
    obtain ⟨Bf, ow, en, k, d, en', hf, q⟩ := h
    unfold eIsi at hf
    split at hf <;> first | cases hf | skip
    rename_i d1 en1 h1
    exact ⟨Bf, ow, en, k, _, _, h1, fun v ow1 H1 k1 r1 p1 => ⟨v, .ty T, _, _, _, rfl, .ty T, p1.tyx, kit_all hT, q _ ow1 H1 k1 r1 (.bl _)⟩⟩
def eIsi2 (T U : String) (f : FE) : FE := fun en => match f en with
  | some (d, en1) => some (.bool (isiD d T || isiD d U), en1)
  | none => none
theorem ve_isi2 {T U : String} {x y : Str} {kk : Nat} {p1 p2 p3 p4 : Pos} (hT : T ∈ isT) (hU : U ∈ isT) (hg : Gl X "isinstance") (hm : X.mg "isinstance" = none) (hgT : Gl X x) (hmT : X.mg x = none) (hbT : bootBuiltins x = some (.type T)) (hgU : Gl X y) (hmU : X.mg y = none) (hbU : bootBuiltins y = some (.type U)) (he : VE X P e fa)
    (hnT : x ≠ "__name__" := by decide) (hdT : (x == ("__debug__" : Str)) = false := by decide) (hnU : y ≠ "__name__" := by decide) (hdU : (y == ("__debug__" : Str)) = false := by decide)
    (hst : starEach [e, .Tuple [.Name x p2, .Name y p3] kk p4] X.env = (false, eval e X.env) :: starEach [.Tuple [.Name x p2, .Name y p3] kk p4] X.env := by rfl) (hst2 : starEach [.Tuple [.Name x p2, .Name y p3] kk p4] X.env = (false, eval (.Tuple [.Name x p2, .Name y p3] kk p4) X.env) :: starEach [] X.env := by rfl) (hpl : (backTo pos (starEach [.Tuple [.Name x p2, .Name y p3] kk p4] X.env)).any (·.1) = false := by rfl)
    (hsa : starEach [.Name x p2, .Name y p3] X.env = (false, eval (.Name x p2) X.env) :: starEach [.Name y p3] X.env := by rfl) (hsb : starEach [.Name y p3] X.env = (false, eval (.Name y p3) X.env) :: starEach [] X.env := by rfl) :
    VE X P (.Call (.Name "isinstance" p1) [e, .Tuple [.Name x p2, .Name y p3] kk p4] [] pos) (eIsi2 T U fa) :=
  PE.weak (pe_callB call_isiT hg hm (by decide +kernel) (pa_cons he (pa_cons (pe_tup (pa_cons (pe_bltn (v := .ty T) hgT hmT hbT rfl hnT hdT) (pa_cons (pe_bltn (v := .ty U) hgU hmU hbU rfl hnU hdU) pa_nil hsb) hsa)) pa_nil hst2) hst) (by decide) (by decide) hst hpl) fun σ H Q h => by
    obtain ⟨Bf, ow, en, k, d, en', hf, q⟩ := h
    unfold eIsi2 at hf
    split at hf <;> first | cases hf | skip
    rename_i d1 en1 h1
    refine ⟨Bf, ow, en, k, _, _, h1, fun v ow1 H1 k1 r1 p1 => ⟨by show 2 ≤ sizeLine; decide, fun t ht => ?_⟩⟩
    have p2 := (Ext.upd (o := .tup [.ty T, .ty U]) ht).rp p1
    refine ⟨v, t, _, _, _, _, rfl, upd_same, .cons (.ty T) (.cons (.ty U) .nil), p2.tyx, ?_, q _ ow1 _ (k1.ext (.upd ht)) (r1.trans (Ext.upd ht).rel) (.bl _)⟩
    refine kitAny_cons (kit_all hT) (fun z => ?_) (fun z => by rw [z]; rfl)
    rw [z, Bool.false_or]
    refine kitAny_cons (kit_all hU) (fun z => ?_) (fun z => z)
    rw [z]
    exact kitAny_nil
end
theorem slot_type_ne : Slot "type" "__ne__" "object.__ne__" :=
  .of (owner := "object") (n := "__ne__") (by rw [typeLookup_type, builtinLookup_eq_fast]; kernel_rfl) (by decide +kernel) (by decide +kernel) (by decide +kernel)
    (by first | exact .inl (by decide +kernel) | exact .inr (by decide +kernel)) (by rw [isSubtype_type]; kernel_rfl)
section
variable {prog : Program} {w : World} {A : Around} {E : Value → Shared → Prop} {s : Shared} {X Y : String}
theorem ty_eq_same (hX : ∀ s' : Shared, s'.TypeIs (.type X) "type") {Q : Option Value → Shared → Prop} (h : Q (some (.bool true)) s) : wpAny (model prog w) A (callSpecialIfBound? (.type X) "__eq__" [.type X]) Q E s :=
  wpAny_callSpecialIfBound?_slot (hX s) TypeEq.slot_type_eq (call_gives TypeEq.slot_type_eq (hX s) F.entry_object_eq (F.args_object_eq_2 _ _) (TypeEq.object_eq_same rfl (by simp)) h)
theorem ty_eq_other (hX : ∀ s' : Shared, s'.TypeIs (.type X) "type") (hne : (Value.type X == Value.type Y) = false) {Q : Option Value → Shared → Prop} (h : Q (some .notImplemented) s) : wpAny (model prog w) A (callSpecialIfBound? (.type X) "__eq__" [.type Y]) Q E s :=
  wpAny_callSpecialIfBound?_slot (hX s) TypeEq.slot_type_eq (call_gives TypeEq.slot_type_eq (hX s) F.entry_object_eq (F.args_object_eq_2 _ _) (TypeEq.object_eq_other rfl hne) h)
theorem ty_ne_same (hX : ∀ s' : Shared, s'.TypeIs (.type X) "type") (hu : A.units + 2 < cLine) {Q : Option Value → Shared → Prop} (h : Q (some (.bool false)) s) : wpAny (model prog w) A (tryCompare (.type X) "__ne__" (.type X)) Q E s := by
  simp only [tryCompare]
  refine wpAny_bind (wpAny_callSpecialIfBound?_slot (hX s) slot_type_ne (wpAny_call (codeAny_call_builtin slot_type_ne.plain F.cmpEntry_ne (slot_type_ne.check _ _ _ _ _ _ _ _ (hX s) (F.cmpArgs_ne _ _) ?_))))
  unfold Builtin.«object.__ne__»
  repeat (first | with_reducible refine wpAny_cRoomFor (by show A.units + 1 < cLine; omega) ?_ | with_reducible refine ty_eq_same hX ?_ | wp_step)
  exact h
theorem ty_ne_other (hX : ∀ s' : Shared, s'.TypeIs (.type X) "type") (hne : (Value.type X == Value.type Y) = false) (hu : A.units + 2 < cLine) {Q : Option Value → Shared → Prop} (h : Q none s) : wpAny (model prog w) A (tryCompare (.type X) "__ne__" (.type Y)) Q E s := by
  simp only [tryCompare]
  refine wpAny_bind (wpAny_callSpecialIfBound?_slot (hX s) slot_type_ne (wpAny_call (codeAny_call_builtin slot_type_ne.plain F.cmpEntry_ne (slot_type_ne.check _ _ _ _ _ _ _ _ (hX s) (F.cmpArgs_ne _ _) ?_))))
  unfold Builtin.«object.__ne__»
  repeat (first | with_reducible refine wpAny_cRoomFor (by show A.units + 1 < cLine; omega) ?_ | with_reducible refine ty_eq_other hX hne ?_ | wp_step)
  exact h
theorem ne_type (hX : ∀ s' : Shared, s'.TypeIs (.type X) "type") (hY : ∀ s' : Shared, s'.TypeIs (.type Y) "type") (hu : A.units + 2 < cLine) {Q : Value → Shared → Prop} (h : Q (.bool (!(Value.type X == Value.type Y))) s) : wpAny (model prog w) A (compareOp .NotEq (.type X) (.type Y)) Q E s := by
  show wpAny _ A (richCompare .NotEq _ _) Q E s
  unfold richCompare
  rw [(hX s).oneThing_none]
  refine wpAny_holding ?_
  refine wpAny_bind (wpAny_cRoomFor_or (.inl rfl) ?_)
  refine wpAny_bind (wpAny_typeOf (hX s) (wpAny_bind (wpAny_typeOf (hY s) ?_)))
  simp only [bne_self_eq_false, Bool.false_eq_true, if_false, pure_bind, Bool.not_false, if_true]
  by_cases e : X = Y
  · subst e
    refine wpAny_bind (m := tryCompare (.type X) _ (.type X)) (ty_ne_same hX hu ?_)
    rw [show (Value.type X == Value.type X) = true by simp] at h
    exact wpAny_pure h
  · have hne : (Value.type X == Value.type Y) = false := by simpa using e
    have hne' : (Value.type Y == Value.type X) = false := by simpa using fun z => e z.symm
    refine wpAny_bind (m := tryCompare (.type X) _ (.type Y)) (ty_ne_other hX hne hu ?_)
    refine wpAny_bind (m := tryCompare (.type Y) _ (.type X)) (ty_ne_other hY hne' hu ?_)
    refine wpAny_bind (wpAny_rule (wpAny_bind (wpAny_of_eq (isSame_plain rfl) (wpAny_pure h))))
theorem eq_type (hX : ∀ s' : Shared, s'.TypeIs (.type X) "type") (hY : ∀ s' : Shared, s'.TypeIs (.type Y) "type") {Q : Value → Shared → Prop} (h : Q (.bool (Value.type X == Value.type Y)) s) : wpAny (model prog w) A (compareOp .Eq (.type X) (.type Y)) Q E s := by
  by_cases e : X = Y
  · subst e
    rw [show (Value.type X == Value.type X) = true by simp] at h
    exact TypeEq.eq_type_same hX h
  · have hne : (Value.type X == Value.type Y) = false := by simpa using e
    rw [hne] at h
    exact TypeEq.eq_type_other hX hY hne h
end
section
variable {X : Cx} {P : Pl} {e : Expr} {fa : FE} {pos : Pos}
theorem meta_of {T : String} (h : T ∈ tyNames) (s' : Shared) : s'.TypeIs (.type T) "type" := by
  unfold tyNames at h
  simp only [List.mem_cons, List.not_mem_nil, or_false] at h
  rcases h with rfl | rfl | rfl | rfl | rfl | rfl | rfl
  · exact TypeEq.meta_NoneType s'
  · exact TypeEq.meta_int s'
  · exact TypeEq.meta_bool s'
  · exact TypeEq.meta_str s'
  · exact TypeEq.meta_list s'
  · exact TypeEq.meta_tuple s'
  · exact TypeEq.meta_dict s'
theorem Rp.tyb {K : PySem.W.Frag} {H : Hp} {B : Addr → Prop} {d : D} {v : V} (r : Rp H B d v) : TyB K H v (typD d) := by
  cases r with
  | non => exact .non
  | bl b => exact .bl b
  | int i => exact .int i
  | str x => exact .str x
  | lst nb rd rs => exact .lst (.inl rd)
  | tup nb rd rs => exact .tup (SqT.of rd)
def rTyNe : R2 := fun x y H Q => ∃ a b, x = .ty a ∧ y = .ty b ∧ a ∈ tyNames ∧ b ∈ tyNames ∧ Q (.bl (!decide (a = b))) H
def rTyEq : R2 := fun x y H Q => ∃ a b, x = .ty a ∧ y = .ty b ∧ a ∈ tyNames ∧ b ∈ tyNames ∧ Q (.bl (decide (a = b))) H
theorem dec_ty (a b : String) : decide (a = b) = (Value.type a == Value.type b) := by
  by_cases h : a = b
  · subst h; simp
  · rw [decide_eq_false h]
    exact (beq_eq_false_iff_ne.mpr fun z => h (by injection z)).symm
theorem op_tyNe (hu : X.A.units + 64 < cLine) : OpR X (compareOp .NotEq) rTyNe := by
  intro pins s σ H x y v u Q I rx ry h
  obtain ⟨a, b, rfl, rfl, ha, hb, q⟩ := h
  cases (show v = Value.type a from rx)
  cases (show u = Value.type b from ry)
  rw [dec_ty] at q
  exact ne_type (meta_of ha) (meta_of hb) (by omega) ⟨.bl _, H, I, rfl, q⟩
theorem op_tyEq : OpR X (compareOp .Eq) rTyEq := by
  intro pins s σ H x y v u Q I rx ry h
  obtain ⟨a, b, rfl, rfl, ha, hb, q⟩ := h
  cases (show v = Value.type a from rx)
  cases (show u = Value.type b from ry)
  rw [dec_ty] at q
  exact eq_type (meta_of ha) (meta_of hb) ⟨.bl _, H, I, rfl, q⟩
def eTyp (neg : Bool) (T : String) (f : FE) : FE := fun en => match f en with
  | some (d, en1) => some (.bool (if neg then !decide (typD d = T) else decide (typD d = T)), en1)
  | none => none
theorem pe_typ {p1 : Pos} (hg : Gl X "type") (hm : X.mg "type" = none) (he : VE X P e fa) (hst : starEach [e] X.env = (false, eval e X.env) :: starEach [] X.env := by rfl) (hpl : (backTo pos (starEach [] X.env)).any (·.1) = false := by rfl) :
    PE X (.Call (.Name "type" p1) [e] [] pos) (tCB (rTyp X.K) (tCons (tv P fa) tNil)) := pe_callTy call_type1 hg hm (by decide +kernel) (pa_cons he pa_nil hst) (by decide) (by decide) hst hpl
theorem vt_typNe {T : String} {x : Str} {p1 p2 cpos : Pos} (hT : T ∈ tyNames) (hu : X.A.units + 64 < cLine) (hg : Gl X "type") (hm : X.mg "type" = none) (hgT : Gl X x) (hmT : X.mg x = none) (hbT : bootBuiltins x = some (.type T)) (he : VE X P e fa)
    (hnT : x ≠ "__name__" := by decide) (hdT : (x == ("__debug__" : Str)) = false := by decide) (hst : starEach [e] X.env = (false, eval e X.env) :: starEach [] X.env := by rfl) (hpl : (backTo cpos (starEach [] X.env)).any (·.1) = false := by rfl) :
    VT X P (.Compare (.Call (.Name "type" p1) [e] [] cpos) [.NotEq] [.Name x p2] pos) (fBool (eTyp true T fa)) :=
  PT.weak (pt_cmpR (op_tyNe hu) (pe_typ hg hm he hst hpl) (pe_bltn (v := .ty T) hgT hmT hbT rfl hnT hdT) (nomark _)) fun σ H Q h => by
    have h := tvT_bool σ H Q h
    obtain ⟨Bf, ow, en, k, d, en', hf, q⟩ := h
    unfold eTyp at hf
    split at hf <;> first | cases hf | skip
    rename_i d1 en1 h1
    exact ⟨Bf, ow, en, k, _, _, h1, fun v ow1 H1 k1 r1 p1 => ⟨v, _, rfl, p1.tyb, _, _, rfl, rfl, typD_in _, hT, q _ ow1 H1 k1 r1 (.bl _)⟩⟩
end
end VL

namespace VL
open PySem PySem.Spec
open PyProof.Rows L2

/-! ### sorted -/
def leI (a b : Int) : Bool := decide (a ≤ b)
def sortI (ns : List Int) : List Int := ns.mergeSort leI
theorem sortI_perm (ns : List Int) : (sortI ns).Perm ns := List.mergeSort_perm ns leI
theorem sortI_pw (ns : List Int) : (sortI ns).Pairwise (· ≤ ·) := by
  have h := List.pairwise_mergeSort (le := leI) (fun a b c h1 h2 => by simp [leI] at *; omega) (fun a b => by simp [leI]; omega) ns
  exact h.imp fun h => of_decide_eq_true h
theorem sortI_eq {ns ms : List Int} (hp : ms.Perm ns) (hs : ms.Pairwise (· ≤ ·)) : ms = sortI ns :=
  (hp.trans (sortI_perm ns).symm).eq_of_pairwise (fun a b _ _ h1 h2 => Int.le_antisymm h1 h2) hs (sortI_pw ns)
def leP (a b : Int × Int) : Bool := decide (a.1 < b.1) || (decide (a.1 = b.1) && decide (a.2 ≤ b.2))
theorem leP_iff {a b : Int × Int} : leP a b = true ↔ a.1 < b.1 ∨ (a.1 = b.1 ∧ a.2 ≤ b.2) := by simp [leP]
def sortP (ns : List (Int × Int)) : List (Int × Int) := ns.mergeSort leP
theorem sortP_perm (ns : List (Int × Int)) : (sortP ns).Perm ns := List.mergeSort_perm ns leP
theorem sortP_pw (ns : List (Int × Int)) : (sortP ns).Pairwise (fun a b => leP a b = true) :=
  List.pairwise_mergeSort (le := leP) (fun a b c h1 h2 => by rw [leP_iff] at *; omega) (fun a b => by
    rw [Bool.or_eq_true, leP_iff, leP_iff]
    omega) ns
theorem sortP_eq {ns ms : List (Int × Int)} (hp : ms.Perm ns) (hs : ms.Pairwise (fun a b => leP a b = true)) : ms = sortP ns :=
  (hp.trans (sortP_perm ns).symm).eq_of_pairwise (fun a b _ _ h1 h2 => by
    rw [leP_iff] at h1 h2
    exact Prod.ext (by omega) (by omega)) hs (sortP_pw ns)
def pairD (p : Int × Int) : D := .tuple [.int p.1, .int p.2]
def pairsOf : List D → Option (List (Int × Int))
  | [] => some []
  | .tuple [.int i, .int j] :: r => (pairsOf r).map ((i, j) :: ·)
  | _ => none
theorem pairsOf_eq : ∀ {ds : List D} {ns : List (Int × Int)}, pairsOf ds = some ns → ds = ns.map pairD
  | [], ns, h => by cases h; rfl
  | d :: r, ns, h => by
    unfold pairsOf at h
    split at h
    · rename_i h0; cases h0
    · rename_i i j r' h0
      cases h0
      cases e : pairsOf r with
      | none => rw [e] at h; cases h
      | some ms =>
        rw [e] at h
        cases h
        rw [pairsOf_eq e]
        rfl
    · cases h
theorem pairsOf_map : ∀ ns : List (Int × Int), pairsOf (ns.map pairD) = some ns
  | [] => rfl
  | n :: ns => by
    rw [List.map_cons]
    unfold pairD
    rw [pairsOf]
    have := pairsOf_map ns
    unfold pairD at this
    rw [this]
    rfl
def gSorted : List D → Option (List D)
  | [.list ds] => match intsOf ds with
    | some ns => some ((sortI ns).map .int)
    | none => match pairsOf ds with
      | some ps => some ((sortP ps).map pairD)
      | none => none
  | _ => none
def keyH (H : Hp) : V → Int × Int
  | .ref t => match H t with
    | some (.tup [.int i, .int j]) => (i, j)
    | _ => (0, 0)
  | _ => (0, 0)
theorem keyH_of {H : Hp} {B : Addr → Prop} {p : Int × Int} {v : V} (r : Rp H B (pairD p) v) : (∃ t, v = .ref t ∧ H t = some (.tup [.int p.1, .int p.2])) ∧ keyH H v = p := by
  unfold pairD at r
  cases r with
  | tup nb e rs =>
    cases rs with
    | cons p1 rs =>
      cases rs with
      | cons p2 rs =>
        cases rs
        cases p1
        cases p2
        refine ⟨⟨_, rfl, e⟩, ?_⟩
        simp [keyH, e]
theorem RpL.pairs {H : Hp} {B : Addr → Prop} : ∀ {ps : List (Int × Int)} {vs : List V}, RpL H B (ps.map pairD) vs → vs.map (keyH H) = ps ∧ ∀ v ∈ vs, (∃ t, v = .ref t ∧ H t = some (.tup [.int (keyH H v).1, .int (keyH H v).2])) ∧ Rp H B (pairD (keyH H v)) v
  | [], _, .nil => ⟨rfl, fun _ h => by simp at h⟩
  | p :: ps, _, .cons (v := v) r rs => by
    obtain ⟨h1, h2⟩ := RpL.pairs rs
    obtain ⟨h3, h4⟩ := keyH_of r
    refine ⟨by rw [List.map_cons, h4, h1], fun w hw => ?_⟩
    rcases List.mem_cons.mp hw with rfl | hw
    · rw [h4]
      exact ⟨h3, r⟩
    · exact h2 w hw
theorem RpL.ofMap {H : Hp} {B : Addr → Prop} {f : V → D} : ∀ {vs : List V}, (∀ v ∈ vs, Rp H B (f v) v) → RpL H B (vs.map f) vs
  | [], _ => .nil
  | v :: vs, h => .cons (h v (by simp)) (RpL.ofMap fun w hw => h w (List.mem_cons_of_mem _ hw))
def rSortedAll (K : PySem.W.Frag) : List V → Hp → VK → Prop := fun vs H Q => rSortedI K vs H Q ∨ rSortedPO K vs H Q
theorem cr_sortedAll {X : Cx} : CallR X (.builtin "sorted") (rSortedAll X.K) := by
  intro pins s σ H xs us Q I r h
  rcases h with h | h
  · exact cr_sortedI pins s σ H xs us Q I r h
  · exact cr_sortedPO pins s σ H xs us Q I r h
theorem ca_sorted {K : PySem.W.Frag} : CaL (rSortedAll K) gSorted := by
  intro H B ds es vs Q e r q
  unfold gSorted at e
  split at e <;> first | cases e | skip
  rename_i xs
  cases r with
  | cons p r =>
    cases r
    cases p with
    | lst n1 d1 s1 =>
      split at e
      · rename_i ns h
        cases e
        have := intsOf_eq h
        subst this
        have := s1.ints
        subst this
        refine .inl ⟨_, ns, rfl, .inl d1, fun ns' p hp hs hn => ?_⟩
        have := sortI_eq hp hs
        subst this
        exact q p _ hn (.ofInts _)
      · split at e <;> first | cases e | skip
        rename_i ps h
        have := pairsOf_eq h
        subst this
        obtain ⟨h1, h2⟩ := s1.pairs
        refine .inr ⟨_, _, keyH H, rfl, .inl d1, fun x hx => (h2 x hx).1, fun ys p hs hst hn => q p ys hn ?_⟩
        have hpm : (ys.map (keyH H)).Perm ps := by
          rw [← h1]
          exact hst.perm.map _
        have hpw : (ys.map (keyH H)).Pairwise (fun a b => leP a b = true) := by
          rw [List.pairwise_map]
          refine List.Pairwise.imp ?_ hs
          intro a b hab
          rw [leP_iff]
          have := SrtO.lexB_no.mp hab
          omega
        rw [← sortP_eq hpm hpw, List.map_map]
        exact RpL.ofMap fun v hv => (h2 v (hst.perm.mem_iff.mp hv)).2
end VL

namespace VL
open PySem PySem.Spec
open PyProof.Rows L2

section
variable {X : Cx} {P : Pl} {a b e : Expr} {es : List Expr} {fa fb : FE} {ga : FA} {pos apos cpos : Pos}
/-! ### values made since the start -/
def tvN (P : Pl) (f : FE) : TE := fun σ H Q => ∃ Bf ow en, Ok P Bf ow en σ H ∧ ∃ d en', f en = some (d, en') ∧
  ∀ v ow' H', Ok P Bf ow' en' σ H' → Rel P H ow H' ow' → Rx H' (blkN Bf ow') d v → Q v H'
def VN (X : Cx) (P : Pl) (e : Expr) (f : FE) : Prop := PE X e (tvN P f)
def nNew (f : FL) : FE := fun en => match f en with
  | some (ds, en1) => if ds.all flatD = true then some (.list ds, en1) else none
  | none => none
theorem vn_new {f : FL} (h : VF X P e f) : VN X P e (nNew f) := PE.weak h fun σ H Q h => by
  obtain ⟨Bf, ow, en, k, d, en', hf, q⟩ := h
  unfold nNew at hf
  split at hf <;> first | cases hf | skip
  rename_i ds en1 h1
  split at hf <;> first | cases hf | skip
  rename_i hfl
  exact ⟨Bf, ow, en, k, _, _, h1, fun p xs ow1 H1 k1 r1 b1 b2 b3 b4 hp rs => q _ ow1 H1 k1.unins r1 (.lst (fun z => z.elim (new_nb b1 b3) b2) hp (rs.flatX hfl))⟩
def nVar (P : List Nat) (i : Nat) : FE := fun en => match en[i]? with
  | some (.vn d) => some (d, en)
  | some (.ow ds) => if i ∉ P ∧ ds.all flatD = true then some (.list ds, en.set i (.vn (.list ds))) else none
  | _ => none
theorem Ok.freezeN {Bf : Bk} {ow : Nat → Option Addr} {en : En} {σ : L2.St} {H : Hp} (k : Ok P Bf ow en σ H) {i : Nat} {ds : List D} (hi : i ∉ P) (e : en[i]? = some (.ow ds)) (hfl : ds.all flatD = true) :
    ∃ v, σ[i]? = some (some v) ∧ Ok P Bf (dropOw ow i) (en.set i (.vn (.list ds))) σ H ∧ Rx H (blkN Bf (dropOw ow i)) (.list ds) v := by
  obtain ⟨a, xs, h1, h2, h3, h4⟩ := k.hown i ds e
  have p : Rx H (blkN Bf (dropOw ow i)) (.list ds) (.ref a) := by
    refine .lst (fun z => ?_) h3 (h4.flatX hfl)
    rcases z with (z | ⟨j, z⟩) | z
    · exact (k.hloc i a h1 hi).1 z
    · have := k.hinj j i a (dropOw_sub _ _ z) h1
      subst this
      unfold dropOw at z
      rw [if_pos rfl] at z
      cases z
    · exact (k.hloc i a h1 hi).2 z
  refine ⟨_, h2, ?_, p⟩
  have k2 := k.setN hi p
  have es : σ.set i (some (.ref a)) = σ := by
    apply List.ext_getElem?
    intro j
    by_cases hj : j = i
    · subst hj
      rw [List.getElem?_set_self (List.getElem?_eq_some_iff.mp h2).1, h2]
    · rw [List.getElem?_set_ne (Ne.symm hj)]
  rw [es] at k2
  exact k2
theorem vn_var {i : Nat} {x : Str} (hN : X.N[i]? = some x) (hv : Vis X.env.scope x := by first | exact .inl rfl | exact .inr (.inl rfl) | exact .inr (.inr rfl)) (hd : (x == ("__debug__" : Str)) = false := by decide) (hcd : (x == ("__classdict__" : Str)) = false := by decide) : VN X P (.Name x pos) (nVar P.ps i) := by
  refine PE.weak (pe_var hN hv hd hcd) fun σ H Q h => ?_
  obtain ⟨Bf, ow, en, k, d, en', hf, q⟩ := h
  unfold nVar at hf
  split at hf
  · rename_i d' he
    cases hf
    obtain ⟨v, h1, h2⟩ := k.hvn i d he
    exact ⟨v, h1, q v ow H k .refl h2⟩
  · rename_i ds he
    split at hf <;> first | cases hf | skip
    rename_i hc
    obtain ⟨v, h1, k2, p⟩ := k.freezeN hc.1 he hc.2
    exact ⟨v, h1, q v _ H k2 (dropOw_rel hc.1) p⟩
  · cases hf
def tvNA (P : Pl) (f : FA) : TA := fun σ H Q => ∃ Bf ow en, Ok P Bf ow en σ H ∧ ∃ ds en', f en = some (ds, en') ∧
  ∀ vs ow' H', Ok P Bf ow' en' σ H' → Rel P H ow H' ow' → RxL H' (blkN Bf ow') ds vs → Q vs H'
def VNA (X : Cx) (P : Pl) (es : List Expr) (f : FA) : Prop := PA X es (tvNA P f)
theorem vna_nil : VNA X P [] aNil := by
  refine PA.weak pa_nil fun σ H Q h => ?_
  obtain ⟨Bf, ow, en, k, d, en', hf, q⟩ := h
  cases hf
  exact q [] ow H k .refl .nil
theorem vna_cons (ha : VN X P e fa) (hr : VNA X P es ga) (hs : starEach (e :: es) X.env = (false, eval e X.env) :: starEach es X.env := by rfl) : VNA X P (e :: es) (aCons fa ga) := by
  refine PA.weak (pa_cons ha hr hs) fun σ H Q h => ?_
  obtain ⟨Bf, ow, en, k, d, en', hf, q⟩ := h
  unfold aCons at hf
  split at hf <;> first | cases hf | skip
  rename_i d1 en1 h1
  split at hf <;> first | cases hf | skip
  rename_i ds en2 h2
  exact ⟨Bf, ow, en, k, _, _, h1, fun v1 ow1 H1 k1 r1 p1 => ⟨Bf, ow1, en1, k1, _, _, h2, fun vs ow2 H2 k2 r2 p2 => q _ ow2 H2 k2 (r1.trans r2) (.cons (p1.move r2.mvN) p2)⟩⟩
theorem vn_lst (h : VNA X P es ga) : VN X P (.List es pos) (eLst ga) := by
  refine PE.weak (pe_lst h) fun σ H Q h => ?_
  obtain ⟨Bf, ow, en, k, d, en', hf, q⟩ := h
  unfold eLst at hf
  split at hf <;> first | cases hf | skip
  rename_i ds en1 h1
  split at hf <;> first | cases hf | skip
  rename_i hz
  exact ⟨Bf, ow, en, k, _, _, h1, fun vs ow1 H1 k1 r1 p1 => ⟨by rw [← p1.length]; exact hz, fun p hp => q _ ow1 _ (k1.ext (.upd hp)) (r1.trans (Ext.upd hp).rel)
    (.lst (fun z => z.elim (k1.nb hp) fun z => k1.hod p z hp) upd_same (p1.move fun b o e t n => ⟨Ext.upd hp b o e, n⟩))⟩⟩
def gCat : D → D → Option D
  | .list xs, .list ys => if xs.length + ys.length ≤ sizeLine then some (.list (xs ++ ys)) else none
  | _, _ => none
theorem vn_cat (ha : VN X P a fa) (hb : VN X P b fb) : VN X P (.BinOp a .Add b pos) (eOp gCat fa fb) :=
  PE.weak (pe_op op_catR ha hb) fun σ H Q h => by
    obtain ⟨Bf, ow, en, k, d, en', hf, q⟩ := h
    unfold eOp at hf
    split at hf <;> first | cases hf | skip
    rename_i x en1 h1
    split at hf <;> first | cases hf | skip
    rename_i y en2 h2
    split at hf <;> first | cases hf | skip
    rename_i z h3
    refine ⟨Bf, ow, en, k, x, en1, h1, fun v1 ow1 H1 k1 r1 p1 => ⟨Bf, ow1, en1, k1, y, _, h2, fun v2 ow2 H2 k2 r2 p2 => ?_⟩⟩
    unfold gCat at h3
    split at h3 <;> first | cases h3 | skip
    split at h3 <;> first | cases h3 | skip
    rename_i hz
    have p3 := p1.move r2.mvN
    cases p3 with
    | lst n1 e1 s1 =>
      cases p2 with
      | lst n2 e2 s2 =>
        exact ⟨_, _, _, _, rfl, rfl, .inl e1, .inl e2, by rw [← s1.length, ← s2.length]; exact hz, fun p hp => q _ ow2 _ (k2.ext (.upd hp)) ((r1.trans r2).trans (Ext.upd hp).rel)
          (.lst (fun z => z.elim (k2.nb hp) fun z => k2.hod p z hp) upd_same ((s1.append s2).move fun b o e t n => ⟨Ext.upd hp b o e, n⟩))⟩
def sSetN (i : Nat) (f : FE) : FS := fun en => match f en with
  | some (d, en1) => some (.nx (en1.set i (.vn d)))
  | none => none
theorem vs_setN {i : Nat} {x : Str} {pos' : Pos} (hN : X.N.Nodup) (hi : X.N[i]? = some x) (hx : Loc X.env.scope x := by first | exact .inl rfl | exact .inr rfl) (hP : i ∉ P) (he : VN X P e fa) (hs : swapsWith e (some (.Name x pos')) pos.line X.env = pure false := by rfl)
    (hf : X.fn x = true ∨ X.env.scope.names.lookup x = some .local := by first | exact .inl rfl | exact .inr rfl | assumption) : VS X P (.Assign [.Name x pos'] e pos) (sSetN i fa) :=
  PS.weak (ps_set hN hi hx he hs hf) fun Dn σ H h => by
    obtain ⟨Bf, ow, en, k, o, hf, q⟩ := h
    unfold sSetN at hf
    split at hf <;> first | cases hf | skip
    rename_i d en1 h1
    refine ⟨Bf, ow, en, k, _, _, h1, fun v ow1 H1 k1 r1 p1 => ?_⟩
    have p2 := p1.move (H' := H1) (B' := blkN Bf (dropOw ow1 i)) fun b o e t n => ⟨e, fun z => n (z.elim (fun z => .inl (dropOw_blk z)) .inr)⟩
    exact q _ _ _ (k1.setN hP p2) (r1.trans (dropOw_rel hP)).s

/-! ### lists that are given up: for r in <lists made since>: r.append(<a constant>) -/
mutual
/-- no list anywhere -/
def lfD : D → Bool
  | .list _ => false
  | .tuple xs => lfL xs
  | .dict _ => false
  | _ => true
def lfL : List D → Bool
  | [] => true
  | d :: r => lfD d && lfL r
end
mutual
theorem Rp.lf {H H' : Hp} {B : Addr → Prop} (k : ∀ b xs, H b = some (.tup xs) → ¬ B b → H' b = some (.tup xs)) : ∀ {d : D} {v : V}, Rp H B d v → lfD d = true → Rp H' B d v
  | _, _, .non, _ => .non
  | _, _, .bl b, _ => .bl b
  | _, _, .int i, _ => .int i
  | _, _, .str x, _ => .str x
  | _, _, .lst _ _ _, f => by simp [lfD] at f
  | _, _, .tup nb e rs, f => .tup nb (k _ _ e nb) (RpL.lf k rs (by simpa [lfD] using f))
theorem RpL.lf {H H' : Hp} {B : Addr → Prop} (k : ∀ b xs, H b = some (.tup xs) → ¬ B b → H' b = some (.tup xs)) : ∀ {ds : List D} {vs : List V}, RpL H B ds vs → lfL ds = true → RpL H' B ds vs
  | _, _, .nil, _ => .nil
  | _, _, .cons r rs, f => by
    rw [lfL, Bool.and_eq_true] at f
    exact .cons (Rp.lf k r f.1) (RpL.lf k rs f.2)
end
/-- what is left of a slot -/
def clean : Sl → Sl
  | .va d => if lfD d then .va d else .un
  | .ow ds => .ow ds
  | .dc t kvs => .dc t kvs
  | _ => .un
def ownLf : Sl → Bool
  | .ow ds => lfL ds
  | .dc _ kvs => kvs.all fun p => lfD p.2
  | _ => true
theorem clean_va {s : Sl} {d : D} (e : clean s = .va d) : s = .va d ∧ lfD d = true := by
  cases s with
  | va d' =>
    simp only [clean] at e
    split at e
    · cases e
      exact ⟨rfl, by assumption⟩
    · cases e
  | _ => simp [clean] at e
theorem clean_own {s s' : Sl} (e : clean s = s') (f : isOwn s' = true) : s = s' := by
  cases s with
  | va d' =>
    simp only [clean] at e
    split at e <;> (subst e; cases f)
  | ow ds' => exact e
  | dc t ds' => exact e
  | _ => subst e; cases f
theorem clean_vn {s : Sl} {d : D} (e : clean s = .vn d) : False := by
  cases s with
  | va d' =>
    simp only [clean] at e
    split at e <;> cases e
  | _ => simp [clean] at e
theorem pairedM {α β : Type} {F G : α → β → Prop} : ∀ {l₁ : List α} {l₂ : List β}, Paired F l₁ l₂ → (∀ a b, a ∈ l₁ → F a b → G a b) → Paired G l₁ l₂
  | _, _, .nil, _ => .nil
  | _, _, .cons r t, f => .cons (f _ _ (by simp) r) (pairedM t fun a b h => f a b (List.mem_cons_of_mem _ h))
theorem OwnAt.lf {H H' : Hp} {B : Addr → Prop} {a : Addr} {s : Sl} (d : OwnAt H B a s) (ha : ∀ o, H a = some o → H' a = some o) (k : ∀ b xs, H b = some (.tup xs) → ¬ B b → H' b = some (.tup xs)) (hl : ownLf s = true) : OwnAt H' B a s := by
  cases s with
  | ow ds =>
    obtain ⟨xs, h1, h2⟩ := d
    exact ⟨xs, ha _ h1, h2.lf k hl⟩
  | dc t kvs =>
    have hl' : ∀ p ∈ kvs, lfD p.2 = true := List.all_eq_true.mp hl
    obtain ⟨t, l⟩ := t
    cases t with
    | false =>
      obtain ⟨ks, h1, h2⟩ := d
      exact ⟨ks, h1.move (fun _ z => nomatch z) fun o e _ => ha o e, pairedM h2 fun p q hp z => ⟨z.1, z.2.lf k (hl' p hp)⟩⟩
    | true =>
      obtain ⟨ks, h1, h2⟩ := d
      exact ⟨ks, h1.move (fun _ z => nomatch z) fun o e _ => ha o e, pairedM h2 fun p q hp z => ⟨z.1, z.2.lf k (hl' p hp)⟩⟩
  | un => exact d.elim
  | va _ => exact d.elim
  | vn _ => exact d.elim
/-- lists that are no one's may have changed -/
theorem Ok.spoil {Bf : Bk} {ow : Nat → Option Addr} {en : En} {σ : L2.St} {H H' : Hp} (k : Ok P Bf ow en σ H) (kt : ∀ b zs, H b = some (.tup zs) → H' b = some (.tup zs)) (ko : ∀ i a o, ow i = some a → H a = some o → H' a = some o)
    (sm : ∀ b, H b ≠ none → H' b ≠ none) (smn : ∀ b, nt H b → nt H' b) (ht : LamX.Tabs P.tb H') (hl : en.all ownLf = true) : Ok P Bf ow (en.map clean) σ H' := by
  have kt' : ∀ b zs, H b = some (.tup zs) → ¬ blk Bf ow b → H' b = some (.tup zs) := fun b zs e _ => kt b zs e
  refine ⟨by simp [k.hlen], fun i d e => ?_, fun i d e => ?_, fun i s' e f => ?_, fun i a e => ?_, k.hinj, fun b z => smn b (k.hbf b z), fun b z => sm b (k.hod b z), k.hloc, ht⟩
  · rw [List.getElem?_map] at e
    cases e0 : en[i]? with
    | none => rw [e0] at e; cases e
    | some s =>
      rw [e0] at e
      obtain ⟨rfl, hf⟩ := clean_va (Option.some.inj e)
      obtain ⟨v, h1, h2⟩ := k.hva i d e0
      exact ⟨v, h1, h2.lf kt' hf⟩
  · rw [List.getElem?_map] at e
    cases e0 : en[i]? with
    | none => rw [e0] at e; cases e
    | some s =>
      rw [e0] at e
      exact (clean_vn (Option.some.inj e)).elim
  · rw [List.getElem?_map] at e
    cases e0 : en[i]? with
    | none => rw [e0] at e; cases e
    | some s =>
      rw [e0] at e
      have := clean_own (Option.some.inj e) f
      subst this
      obtain ⟨a, h1, h2, h3⟩ := k.hob i s e0 f
      exact ⟨a, h1, h2, h3.lf (fun o e => ko i a o h1 e) kt' ((List.all_eq_true.mp hl) _ (List.mem_of_getElem? e0))⟩
  · obtain ⟨s, e0, f⟩ := k.hdom i a e
    refine ⟨s, ?_, f⟩
    rw [List.getElem?_map, e0]
    cases s with
    | ow ds => rfl
    | dc t ds => rfl
    | un => cases f
    | va _ => cases f
    | vn _ => cases f
theorem clean_idem (s : Sl) : clean (clean s) = clean s := by
  cases s with
  | va d =>
    by_cases h : lfD d = true
    · simp [clean, h]
    · simp [clean, h]
  | _ => rfl
theorem map_clean_idem (en : En) : (en.map clean).map clean = en.map clean := by
  rw [List.map_map]
  congr 1
  funext s
  exact clean_idem s
theorem ownLf_clean (en : En) (h : en.all ownLf = true) : (en.map clean).all ownLf = true := by
  rw [List.all_map]
  rw [List.all_eq_true] at h ⊢
  intro s hs
  have := h s hs
  cases s with
  | va d =>
    simp only [Function.comp, clean]
    split <;> rfl
  | ow ds => exact this
  | dc t ds => exact this
  | _ => rfl
def roomL (n : Nat) : D → Bool
  | .list l => decide (l.length + n < sizeLine)
  | _ => false
def sSpoil (i : Nat) (f : FE) : FS := fun en => match f en with
  | some (.list ds, en1) => if ds.all (roomL ds.length) = true ∧ en1.all ownLf = true ∧ isOwnO en1[i]? = false ∧ i < en1.length then some (.nx ((en1.map clean).set i .un)) else none
  | _ => none
mutual
theorem Rx.uniq {H : Hp} {B B' : Addr → Prop} : ∀ {d d' : D} {v : V}, Rx H B d v → Rx H B' d' v → d = d'
  | _, _, _, .non, .non => rfl
  | _, _, _, .bl b, .bl _ => rfl
  | _, _, _, .int i, .int _ => rfl
  | _, _, _, .str x, .str _ => rfl
  | _, _, _, .lst _ e rs, .lst _ e' rs' => by
    rw [e] at e'
    cases e'
    rw [RxL.uniq rs rs']
  | _, _, _, .tup _ e rs, .tup _ e' rs' => by
    rw [e] at e'
    cases e'
    rw [RxL.uniq rs rs']
  | _, _, _, .lst _ e _, .tup _ e' _ => by rw [e] at e'; cases e'
  | _, _, _, .tup _ e _, .lst _ e' _ => by rw [e] at e'; cases e'
theorem RxL.uniq {H : Hp} {B B' : Addr → Prop} : ∀ {ds ds' : List D} {vs : List V}, RxL H B ds vs → RxL H B' ds' vs → ds = ds'
  | _, _, _, .nil, .nil => rfl
  | _, _, _, .cons r rs, .cons r' rs' => by rw [Rx.uniq r r', RxL.uniq rs rs']
end
end

/-! ### the statements of a def's own body: what was there at its start stands -/
structure RelT (P : Pl) (Bf : Bk) (H : Hp) (ow : Nat → Option Addr) (H' : Hp) (ow' : Nat → Option Addr) : Prop where
  hkeep : ∀ b o, Bf.od b → H b = some o → NT o → (∀ i, ow i ≠ some b) → H' b = some o ∧ (∀ i, ow' i ≠ some b)
  hsome : ∀ b, H b ≠ none → H' b ≠ none
  hpin : ∀ i, i ∈ P → ow' i = ow i
  hfrz : ∀ b o u, H b = some (.frz o u) → H' b = some (.frz o u)
  hnt : ∀ b, nt H b → nt H' b
section
variable {P : Pl} {Bf : Bk} {ow ow' ow1 : Nat → Option Addr} {H H' H1 : Hp}
theorem RelS.t (a : RelS P H ow H' ow') : RelT P Bf H ow H' ow' := ⟨fun b o _ e t n => a.hkeep b o e t n, a.hsome, a.hpin, a.hfrz, a.hnt⟩
theorem RelT.trans (a : RelT P Bf H ow H1 ow1) (b : RelT P Bf H1 ow1 H' ow') : RelT P Bf H ow H' ow' :=
  ⟨fun x o d e t n => b.hkeep x o d (a.hkeep x o d e t n).1 t (a.hkeep x o d e t n).2, fun x e => b.hsome x (a.hsome x e), fun i hi => (b.hpin i hi).trans (a.hpin i hi), fun x o u e => b.hfrz x o u (a.hfrz x o u e), fun x e => b.hnt x (a.hnt x e)⟩
end
def post0 (P : Pl) (Bf : Bk) (Dn : Ends) (H : Hp) (ow : Nat → Option Addr) : Out → Prop
  | .nx en' => ∀ ow' σ' H', Ok P Bf ow' en' σ' H' → RelT P Bf H ow H' ow' → Dn.nx σ' H'
  | .rt d en' => ∀ ow' σ' H' v, Ok P Bf ow' en' σ' H' → RelT P Bf H ow H' ow' → Rp H' (blk Bf ow') d v → Dn.rt v H'
  | .rf ds en' => ∀ ow' σ' H' p xs, Ok P (insB Bf p) ow' en' σ' H' → RelT P Bf H ow H' ow' → ¬ Bf.bl p → ¬ Bf.od p → (∀ i, ow' i ≠ some p) → H' p = some (.lst xs) → RpL H' (blk (insB Bf p) ow') ds xs → Dn.rt (.ref p) H'
  | _ => False
def tvS0 (P : Pl) (f : FS) : TS := fun Dn σ H => ∃ Bf ow en, Ok P Bf ow en σ H ∧ ∃ o, f en = some o ∧ post0 P Bf Dn H ow o
def VS0 (X : Cx) (P : Pl) (st : Stmt) (f : FS) : Prop := PS X st (tvS0 P f)
def VB0 (X : Cx) (P : Pl) (st : List Stmt) (f : FS) : Prop := PSs X st (tvS0 P f)
theorem post0.trans {P : Pl} {Bf : Bk} {Dn : Ends} {H H1 : Hp} {ow ow1 : Nat → Option Addr} {o : Out} (h : post0 P Bf Dn H ow o) (r : RelT P Bf H ow H1 ow1) : post0 P Bf Dn H1 ow1 o := by
  cases o with
  | nx en => exact fun ow' σ' H' k r' => h ow' σ' H' k (r.trans r')
  | rt d en => exact fun ow' σ' H' v k r' p => h ow' σ' H' v k (r.trans r') p
  | rf d en => exact fun ow' σ' H' p xs k r' => h ow' σ' H' p xs k (r.trans r')
  | bk en => exact h
  | ct en => exact h
  | rd t d en => exact h
theorem post0.post {P : Pl} {Bf : Bk} {Dn : Ends} {H : Hp} {ow : Nat → Option Addr} {o : Out} (h : post0 P Bf Dn H ow o) : post P Bf Dn H ow o := by
  cases o with
  | nx en => exact fun ow' σ' H' k r' => h ow' σ' H' k r'.t
  | rt d en => exact fun ow' σ' H' v k r' p => h ow' σ' H' v k r'.t p
  | rf d en => exact fun ow' σ' H' p xs k r' => h ow' σ' H' p xs k r'.t
  | bk en => exact h.elim
  | ct en => exact h.elim
  | rd t d en => exact h.elim
section
variable {X : Cx} {P : Pl} {st : Stmt} {rest sts : List Stmt} {f g : FS} {e : Expr} {fa : FE} {pos apos cpos : Pos}
theorem vs0_of (h : VS X P st f) : VS0 X P st f := PS.weak h fun Dn σ H h => by
  obtain ⟨Bf, ow, en, k, o, hf, q⟩ := h
  exact ⟨Bf, ow, en, k, o, hf, q.post⟩
theorem vb0_of (h : VB X P sts f) : VB0 X P sts f := PSs.weak h fun Dn σ H h => by
  obtain ⟨Bf, ow, en, k, o, hf, q⟩ := h
  exact ⟨Bf, ow, en, k, o, hf, q.post⟩
theorem vb0_one (h : VS0 X P st f) : VB0 X P [st] f := pss_one h
theorem vb0_cons (h1 : VS0 X P st f) (h2 : VB0 X P rest g) : VB0 X P (st :: rest) (sSeq f g) := PSs.weak (pss_cons h1 h2) fun Dn σ H h => by
  obtain ⟨Bf, ow, en, k, o, hf, q⟩ := h
  unfold sSeq at hf
  split at hf
  · rename_i en1 h1
    exact ⟨Bf, ow, en, k, _, h1, fun ow1 σ1 H1 k1 r1 => ⟨Bf, ow1, en1, k1, o, hf, q.trans r1⟩⟩
  · cases hf; exact q.elim
  · cases hf; exact q.elim
  · rename_i d en1 h1
    cases hf
    exact ⟨Bf, ow, en, k, _, h1, q⟩
  · rename_i d en1 h1
    cases hf
    exact ⟨Bf, ow, en, k, _, h1, q⟩
  · cases hf; exact q.elim
  · cases hf
theorem roomL_of {n : Nat} {d : D} (h : roomL n d = true) : ∃ l, d = .list l ∧ l.length + n < sizeLine := by
  cases d with
  | list l => exact ⟨l, rfl, of_decide_eq_true h⟩
  | _ => cases h
theorem Ok.unset {Bf : Bk} {ow : Nat → Option Addr} {en : En} {σ σ' : L2.St} {H : Hp} {i : Nat} (k : Ok P Bf ow en σ H) (h : isOwnO en[i]? = false) (hl : σ'.length = σ.length) (hs : ∀ l, l ≠ i → σ'[l]? = σ[l]?) : Ok P Bf ow (en.set i .un) σ' H := by
  have key : ∀ (j : Nat) (s : Sl), (en.set i .un)[j]? = some s → s ≠ .un → j ≠ i ∧ en[j]? = some s := fun j s e hn => by
    by_cases hj : j = i
    · subst hj
      by_cases hjl : j < en.length
      · rw [List.getElem?_set_self hjl] at e
        cases e
        exact absurd rfl hn
      · rw [List.getElem?_eq_none (by simpa using hjl)] at e
        cases e
    · rw [List.getElem?_set_ne (Ne.symm hj)] at e
      exact ⟨hj, e⟩
  refine ⟨by rw [hl, k.hlen, List.length_set], fun j d e => ?_, fun j d e => ?_, fun j s e f => ?_, fun j a e => ?_, k.hinj, k.hbf, k.hod, k.hloc, k.htab⟩
  · obtain ⟨hj, e'⟩ := key j _ e (fun z => nomatch z)
    obtain ⟨v, h1, h2⟩ := k.hva j d e'
    exact ⟨v, (hs j hj).trans h1, h2⟩
  · obtain ⟨hj, e'⟩ := key j _ e (fun z => nomatch z)
    obtain ⟨v, h1, h2⟩ := k.hvn j d e'
    exact ⟨v, (hs j hj).trans h1, h2⟩
  · obtain ⟨hj, e'⟩ := key j _ e (fun z => by subst z; cases f)
    obtain ⟨a, h1, h2, h3⟩ := k.hob j s e' f
    exact ⟨a, h1, (hs j hj).trans h2, h3⟩
  · obtain ⟨s, e', f⟩ := k.hdom j a e
    have hj : j ≠ i := fun z => by
      subst z
      rw [e'] at h
      have h' : isOwn s = false := h
      rw [f] at h'
      cases h'
    exact ⟨s, by rw [List.getElem?_set_ne (Ne.symm hj)]; exact e', f⟩
theorem vs0_spoil {i : Nat} {x : Str} {c : Int} {jj : Nat} {p1 p2 p3 : Pos} {iter : Expr} (hp : PassesOwn (model X.prog X.w) X.A X.env X.xe) (hc : X.calm = true) (hN : X.N.Nodup) (hi : X.N[i]? = some x) (hx : Loc X.env.scope x := by first | exact .inl rfl | exact .inr rfl) (hP : i ∉ P) (he : VN X P iter fa)
    (hv : Vis X.env.scope x := by first | exact .inl rfl | exact .inr (.inl rfl) | exact .inr (.inr rfl))
    (hd : (x == ("__debug__" : Str)) = false := by decide) (hcd : (x == ("__classdict__" : Str)) = false := by decide) (hf : X.fn x = true ∨ X.env.scope.names.lookup x = some .local := by first | exact .inl rfl | exact .inr rfl | assumption)
    (hbase : attributeBase (.Name x p2) "append" X.env (eval (.Name x p2) X.env) = eval (.Name x p2) X.env := by rfl)
    (hfew : ((backTo cpos (starEach [.Constant (.int c) jj p3] X.env)).all (fun x => !x.1) && (backToKw cpos (keywordEach [] X.env)).all (fun x => x.1.isSome)
      && decide ([(Expr.Constant (.int c) jj p3)].length + ([] : List Keyword).length + (if ([] : List Keyword).isEmpty then 0 else 1) < 30)) = true := by rfl)
    (hline : (apos.endLine == cpos.line) = true := by rfl) (hst : starEach [.Constant (.int c) jj p3] X.env = (false, eval (.Constant (.int c) jj p3) X.env) :: starEach [] X.env := by rfl) (hplain : (backTo cpos (starEach [] X.env)).any (·.1) = false := by rfl)
    {epos : Pos} (hs : swapsWith (.Call (.Attribute (.Name x p2) "append" apos) [.Constant (.int c) jj p3] [] cpos) none epos.line X.env = pure false := by rfl)
    (hfold : ∀ y, foldedSetIterable iter X.env y = pure y := by intro _; rfl) :
    VS0 X P (.For (.Name x p1) iter [.Expr (.Call (.Attribute (.Name x p2) "append" apos) [.Constant (.int c) jj p3] [] cpos) epos] [] pos) (sSpoil i fa) :=
  PS.weak (ps_for hp hc (pi_list he) (pg_name hN hi hx hf) (pss_one (ps_expr (pe_bm PySem.F.plainAttrs_list PySem.F.slot_list_append PySem.F.type_list_append mt_append (pe_var hi hv hd hcd) (pa_cons pe_int pa_nil hst) hbase hfew hline hst hplain) hs)) hfold) fun Dn σ H h => by
    obtain ⟨Bf, ow, en, k, o, hfe, q⟩ := h
    unfold sSpoil at hfe
    split at hfe <;> first | cases hfe | skip
    rename_i ds en1 h1
    split at hfe <;> first | cases hfe | skip
    rename_i hcnd
    obtain ⟨hroom, hown, hnow, hil⟩ := hcnd
    refine ⟨Bf, ow, en, k, _, en1, h1, fun v ow1 H1 k1 r1 p1 => ?_⟩
    cases p1 with
    | lst na ea rs =>
      rename_i a xs
      refine ⟨a, rfl, ⟨xs, SqL.of ea⟩, ?_⟩
      -- the items
      have item : ∀ (j : Nat) (z : V), xs[j]? = some z → ∃ (r : Addr) (l : List D), z = .ref r ∧ l.length + ds.length < sizeLine ∧ ¬ blkN Bf ow1 r ∧ r ≠ a ∧ ∃ zs, H1 r = some (.lst zs) ∧ zs.length = l.length := fun j z hz => by
        have hj : j < ds.length := by rw [rs.length]; exact (List.getElem?_eq_some_iff.mp hz).1
        obtain ⟨v', g1, g2⟩ := rs.get (List.getElem?_eq_getElem hj)
        rw [hz] at g1
        cases g1
        obtain ⟨l, g3, g4⟩ := roomL_of ((List.all_eq_true.mp hroom) _ (List.getElem_mem hj))
        have hm : PyData.list l ∈ ds := by rw [← g3]; exact List.getElem_mem hj
        rw [g3] at g2
        cases g2 with
        | lst nr er rr =>
          refine ⟨_, l, rfl, g4, nr, fun z => ?_, _, er, rr.length.symm⟩
          subst z
          have e := Rx.uniq (Rx.lst nr er rr) (Rx.lst na ea rs)
          have e' : l = ds := by injection e
          subst e'
          have := List.sizeOf_lt_of_mem hm
          simp at this
          omega
      let Pv : Nat → L2.St → Hp → Prop := fun j σ' H' => (∀ b o, H1 b = some o → (∀ (r : Addr) (z : Nat), xs[z]? = some (V.ref r) → b ≠ r) → H' b = some o) ∧ (∀ (r : Addr) (z : Nat), xs[z]? = some (V.ref r) → ∃ zs zs0, H' r = some (.lst zs) ∧ H1 r = some (.lst zs0) ∧ zs.length ≤ zs0.length + j) ∧
        (∀ b, H1 b ≠ none → H' b ≠ none) ∧ σ'.length = σ.length ∧ ∀ l, l ≠ i → σ'[l]? = σ[l]?
      have hla : ∀ j σ' H', Pv j σ' H' → H' a = some (.lst xs) := fun j σ' H' w => w.1 a _ ea fun r z hz e => by
        obtain ⟨r', l, e1, _, _, e2, _⟩ := item z _ hz
        cases e1
        exact e2 e.symm
      refine for_list (K := X.K) (a := a) (xs := xs) Pv ⟨fun b o e _ => e, fun r z hz => ?_, fun b e => e, rfl, fun _ _ => rfl⟩ (fun j σ' H' _ w => SqL.of (hla j σ' H' w)) (fun j z σ' H' hz w => ?_) (fun σ' H' w => ?_)
      · obtain ⟨r', l, e1, _, _, _, zs, e2, _⟩ := item z _ hz
        cases e1
        exact ⟨zs, zs, e2, e2, Nat.le_refl _⟩
      · obtain ⟨r, l, rfl, hl, nr, _, zs0, er, hzl⟩ := item j z hz
        obtain ⟨zs, zs0', e1, e2, e3⟩ := w.2.1 r j hz
        rw [er] at e2
        cases e2
        have hj : j < ds.length := by rw [rs.length]; exact (List.getElem?_eq_some_iff.mp hz).1
        have hlen : zs.length < sizeLine := by omega
        have hiσ : i < σ'.length := by
          rw [w.2.2.2.1, k1.hlen]
          exact hil
        refine ⟨V.ref r, List.getElem?_set_self hiσ, .inl ⟨rfl, _, SqL.of e1⟩, r, zs, .int c, rfl, rfl, e1, hlen, ?_⟩
        refine ⟨fun b o e n => ?_, fun r' z' hz' => ?_, fun b e => ?_, by rw [List.length_set]; exact w.2.2.2.1, fun m hm => by rw [List.getElem?_set_ne (Ne.symm hm)]; exact w.2.2.2.2 m hm⟩
        · rw [upd_ne (n r j hz)]
          exact w.1 b o e n
        · by_cases hr : r' = r
          · subst hr
            obtain ⟨_, zs1, _, f2, _⟩ := w.2.1 r' z' hz'
            rw [er] at f2
            cases f2
            exact ⟨_, zs0, upd_same, er, by rw [List.length_append, List.length_singleton]; omega⟩
          · obtain ⟨zs2, zs3, f1, f2, f3⟩ := w.2.1 r' z' hz'
            exact ⟨zs2, zs3, by rw [upd_ne hr]; exact f1, f2, by omega⟩
        · by_cases hb : b = r
          · rw [hb, upd_same]
            exact fun z => nomatch z
          · rw [upd_ne hb]
            exact w.2.2.1 b e
      · -- the end
        obtain ⟨w1, w2, w3, w4, w5⟩ := w
        have w3n : ∀ b, nt H1 b → nt H' b := fun b ⟨u, e, n⟩ => by
          by_cases hb : ∃ (r : Addr) (z : Nat), xs[z]? = some (V.ref r) ∧ b = r
          · obtain ⟨r, z, hz, rfl⟩ := hb
            obtain ⟨zs, _, e1, _⟩ := w2 b z hz
            exact ⟨_, e1, fun _ z => nomatch z⟩
          · exact ⟨u, w1 b u e fun r z hz h => hb ⟨r, z, hz, h⟩, n⟩
        have k2 : Ok P Bf ow1 (en1.map clean) σ H' := k1.spoil (fun b zs e => w1 b _ e fun r z hz h => by
            obtain ⟨r', l, e1, _, _, _, zs, e2, _⟩ := item z _ hz
            cases e1
            rw [h, e2] at e
            cases e) (fun i' a' o' e1 e2 => w1 a' _ e2 fun r z hz h => by
            obtain ⟨r', l, f1, _, f2, _⟩ := item z _ hz
            cases f1
            rw [h] at e1
            exact f2 (.inl (.inr ⟨i', e1⟩))) w3 w3n (fun q hq => by
            obtain ⟨ps, t1, t2, t3⟩ := k1.htab q hq
            refine ⟨ps, w1 _ _ t1 fun r z hz h => ?_, t2, fun pos cv hc => ?_⟩
            · obtain ⟨r', l, f1, _, _, _, zs, f2, _⟩ := item z _ hz
              cases f1
              rw [h, f2] at t1
              cases t1
            · obtain ⟨c, f1, f2⟩ := t3 pos cv hc
              refine ⟨c, f1, w1 _ _ f2 fun r z hz h => ?_⟩
              obtain ⟨r', l, g1, _, _, _, zs, g2, _⟩ := item z _ hz
              cases g1
              rw [h, g2] at f2
              cases f2) hown
        have hnow2 : isOwnO (en1.map clean)[i]? = false := by
          rw [List.getElem?_map]
          cases e0 : en1[i]? with
          | none => rfl
          | some s =>
            rw [e0] at hnow
            cases s with
            | ow ds' => cases hnow
            | dc t ds' => cases hnow
            | va d =>
              by_cases hlf : lfD d = true
              · simp [clean, hlf, isOwnO, isOwn]
              · simp [clean, hlf, isOwnO, isOwn]
            | un => rfl
            | vn d => rfl
        refine q ow1 σ' H' (k2.unset hnow2 w4 w5) ?_
        have nod : ∀ b, Bf.od b → ∀ (r : Addr) (z : Nat), xs[z]? = some (V.ref r) → b ≠ r := fun b hb r z hz h => by
          obtain ⟨r', l, f1, _, f2, _⟩ := item z _ hz
          cases f1
          subst h
          exact f2 (.inr hb)
        exact ⟨fun b o hb e t n => ⟨w1 b o (r1.hkeep b o e t n).1 (nod b hb), (r1.hkeep b o e t n).2⟩, fun b e => w3 b (r1.hsome b e), r1.hpin, (fun b o u e => w1 b _ (r1.hfrz b o u e) fun r z hz h => by
          obtain ⟨r', l, f1, _, _, _, zs, f2, _⟩ := item z _ hz
          cases f1
          have e1 := r1.hfrz b o u e
          rw [h, f2] at e1
          cases e1), fun b e => w3n b (r1.hnt b e)⟩
end
end VL

namespace VL
open PySem PySem.Spec
open PyProof.Rows L2
section
variable {P : Pl} {Bf : Bk} {ow ow' : Nat → Option Addr} {as en' : En} {vs : List V} {H H' : Hp}
theorem aft_of0 {σ' : L2.St} (hw : ∀ i a, ow i = some a → i ∈ P) (k : Ok P (runB Bf H) ow' en' σ' H') (r : RelT P (runB Bf H) H ow H' ow') : Aft P Bf ow en' H H' :=
  ⟨fun i hi a e => by
    have e' : ow' i = some a := (r.hpin i hi).trans e
    obtain ⟨s, h, f, g2, g3⟩ := k.hat e'
    exact ⟨s, h, f, g3.move (fun o e _ => e) fun b o e t n => ⟨e, fun z => n (run_sub hw r.hpin z)⟩⟩, fun b o e t n => (r.hkeep b o (show H b ≠ none by rw [e]; exact fun z => nomatch z) e t n).1, r.hsome, k.htab, r.hfrz, r.hnt⟩
theorem aft_ofI0 {σ' : L2.St} {p : Addr} (hw : ∀ i a, ow i = some a → i ∈ P) (k : Ok P (insB (runB Bf H) p) ow' en' σ' H') (r : RelT P (runB Bf H) H ow H' ow') : Aft P (insB Bf p) ow en' H H' :=
  ⟨fun i hi a e => by
    have e' : ow' i = some a := (r.hpin i hi).trans e
    obtain ⟨s, h, f, g2, g3⟩ := k.hat e'
    exact ⟨s, h, f, g3.move (fun o e _ => e) fun b o e t n => ⟨e, fun z => n (run_subI hw r.hpin z)⟩⟩, fun b o e t n => (r.hkeep b o (show H b ≠ none by rw [e]; exact fun z => nomatch z) e t n).1, r.hsome, k.htab, r.hfrz, r.hnt⟩
theorem body_V0 {N : List Str} {n : Nat} {f : FS} {Q : VK} {E : XK} (h : spV P n (fnV N.length f) vs H Q E) : tvS0 P f { nx := fun _ H' => Q .non H', rt := Q } (L2.start N vs) H := by
  obtain ⟨Bf, ow, as, hl, k, hw, hn, d, as', hF, q⟩ := h
  unfold fnV at hF
  split at hF
  · rename_i d' en h1
    cases hF
    refine ⟨runB Bf H, ow, _, ok_start k hw hn, _, h1, fun ow' σ' H' v k' r p => ?_⟩
    exact q v H' (aft_of0 hw k' r) (p.move fun b o e t n => ⟨e, fun z => n (run_sub hw r.hpin z)⟩)
  · rename_i en h1
    cases hF
    refine ⟨runB Bf H, ow, _, ok_start k hw hn, _, h1, fun ow' σ' H' k' r => ?_⟩
    exact q .non H' (aft_of0 hw k' r) .non
  · rename_i ds en h1
    cases hF
    refine ⟨runB Bf H, ow, _, ok_start k hw hn, _, h1, fun ow' σ' H' p xs k' r b1 b2 b3 hp rs => ?_⟩
    exact q (.ref p) H' (aft_of0 hw k'.unins r) ((Rp.lst (new_nb b1 b3) (.inl hp) rs.unins).move fun b o e t n => ⟨e, fun z => n (run_sub hw r.hpin z)⟩)
  · cases hF
end
section
variable {Pg : Program} {w : World} {K : PySem.W.Frag} {mg : Str → Option Value} {base : Heap} {P : Pl}
theorem def_V0 {x : String} {st : Stmt} {N ps : List Str} {k : Nat} {f : FS} (F : Nmd K mg x st ps) (S : FnScope N ps (defScope st))
    (hb : ∀ (fa : Addr) (cdv : Value) (A : Around) (outer : List Env) (s : Shared) (H : Hp) (E : XK), Room k (A.deeper (envOfC x (defScope st) s.heap.objs.size fa cdv)) → VB0 (cxOf CX0 Pg w K mg base N x (defScope st) fa cdv A outer s H E).nox P (defBody st) f) :
    Def Pg w K mg base x (k + 1) ps (spV P ps.length (fnV N.length f)) := by
  obtain ⟨fa, fd, h1, h2, h3⟩ := F.ex
  exact ⟨fa, fd, h1, h2.kp, h3, h2.ok S (len_V rfl) fun cdv A outer s H vs Q E hr h => ⟨_, hb fa cdv A outer s H E hr, body_V0 h⟩, fun_lk h2⟩
/-- a promise by another function of the data, that says no more -/
theorem Def.ofV {x : Str} {k n : Nat} {ps : List Str} {F F' : FF} (D : Def Pg w K mg base x k ps (spV P n F)) (h : ∀ as r, as.length = n → F' as = some r → F as = some r) : Def Pg w K mg base x k ps (spV P n F') := by
  obtain ⟨f, fd, h1, h2, h3, h4, h5⟩ := D.ex
  refine ⟨f, fd, h1, h2, h3, h4.imp fun vs H Q E q => ?_, h5⟩
  obtain ⟨Bf, ow, as, hl, k, hw, hn, d, as', hF, q⟩ := q
  exact ⟨Bf, ow, as, hl, k, hw, hn, d, as', h as _ hl hF, q⟩
theorem Def.ofL {x : Str} {k n : Nat} {ps : List Str} {F F' : FFL} (D : Def Pg w K mg base x k ps (spL P n F)) (h : ∀ as r, as.length = n → F' as = some r → F as = some r) : Def Pg w K mg base x k ps (spL P n F') := by
  obtain ⟨f, fd, h1, h2, h3, h4, h5⟩ := D.ex
  refine ⟨f, fd, h1, h2, h3, h4.imp fun vs H Q E q => ?_, h5⟩
  obtain ⟨Bf, ow, as, hl, k, hw, hn, d, as', hF, q⟩ := q
  exact ⟨Bf, ow, as, hl, k, hw, hn, d, as', h as _ hl hF, q⟩
theorem Def.mono {x : Str} {j k : Nat} {ps : List Str} {sp : Sp} (D : Def Pg w K mg base x j ps sp) (h : j ≤ k) : Def Pg w K mg base x k ps sp := by
  obtain ⟨f, fd, h1, h2, h3, h4, h5⟩ := D.ex
  exact ⟨f, fd, h1, h2, h3, h4.mono h, h5⟩
end

/-! ### calls by keywords alone -/
def permL {α : Type} (π : List Nat) (xs : List α) : List α := π.filterMap fun i => xs[i]?
theorem permL_cons {α : Type} (i : Nat) (π : List Nat) (xs : List α) : permL (i :: π) xs = match xs[i]? with
    | some x => x :: permL π xs
    | none => permL π xs := by
  unfold permL
  rw [List.filterMap_cons]
  cases xs[i]? <;> rfl
theorem permL_vals {xs : List V} {us : List Value} (r : Vals xs us) : ∀ π : List Nat, Vals (permL π xs) (permL π us)
  | [] => .nil
  | i :: π => by
    rw [permL_cons, permL_cons]
    cases e : xs[i]? with
    | none =>
      rw [r.none_of e]
      exact permL_vals r π
    | some x =>
      obtain ⟨u, h1, h2⟩ := r.get e
      rw [h1]
      exact .cons h2 (permL_vals r π)
theorem MdsOk.perm {Bf : Bk} {ow : Nat → Option Addr} {en : En} {H : Hp} {ms : List Md} {vs : List V} (r : MdsOk Bf ow en H ms vs) : ∀ π : List Nat, MdsOk Bf ow en H (permL π ms) (permL π vs)
  | [] => trivial
  | i :: π => by
    rw [permL_cons, permL_cons]
    cases e : ms[i]? with
    | none =>
      have : vs[i]? = none := by
        rw [List.getElem?_eq_none_iff] at e ⊢
        rw [← r.length]
        exact e
      rw [this]
      exact MdsOk.perm r π
    | some m =>
      obtain ⟨v, h1, h2⟩ := r.get e
      rw [h1]
      exact ⟨h2, MdsOk.perm r π⟩
structure Kwd (K : PySem.W.Frag) (mg : Str → Option Value) (x : Str) (ps ks : List Str) (π : List Nat) : Prop where
  ex : ∃ (f : Addr) (fd : FuncData), mg x = some (.ref f) ∧ (∃ oc od osl, K.lookup f = some ⟨oc, od, .func fd, osl⟩) ∧ KBn K fd ps 0 ks (fun _ ws => permL π ws) (fun _ zs => permL π zs)
theorem kwd_of {K : PySem.W.Frag} {mg : Str → Option Value} {x : String} {st : Stmt} {ps ks : List Str} {π : List Nat} (F : Nmd K mg x st ps)
    (h : ∀ (kV doc pm : Value) (an : Option Addr) (cdv ct : Value) (ws : List Value), ws.length = ks.length → bindArgs (PySem.W.fnOf x x (defArgs st) (defBody st) (defScope st) .none kV doc pm an cdv ct) ⟨[], ks.zip ws⟩ = pure (ps.zip (permL π ws))) : Kwd K mg x ps ks π := by
  obtain ⟨f, fd, h1, h2, h3⟩ := F.ex
  obtain ⟨oc, od, kV, doc, pm, an, cdv, ct, osl, rfl, lk, hcd⟩ := h2.ex
  refine ⟨f, _, h1, ⟨oc, od, osl, lk⟩, ⟨fun s us ws _ l1 l2 => ?_, fun _ r2 => permL_vals r2 π⟩⟩
  have : us = [] := List.length_eq_zero_iff.mp l1
  subst this
  exact .of_eq (h kV doc pm an cdv ct ws l2)
section
variable {X : Cx} {P : Pl} {kws : List Keyword} {gm : FM} {pos kpos : Pos} {e : Expr} {fa : FE} {nm : Option Str}
def VK (X : Cx) (P : Pl) (kws : List Keyword) (f : FM) : Prop := PK X kws (tvM P f)
theorem PK.weak {kws : List Keyword} {t t' : TA} (h : PK X kws t) (w : ∀ σ H Q, t' σ H Q → t σ H Q) : PK X kws t' :=
  ⟨fun pos pins s σ H Q I q => h.run pos pins s σ H Q I (w σ H Q q)⟩
theorem vk_nil : VL.VK X P [] mNil := by
  refine PK.weak pk_nil fun σ H Q h => ?_
  obtain ⟨Bf, ow, en, k, d, en', hf, q⟩ := h
  cases hf
  exact q [] ow H k .refl trivial
theorem vk_cons (ha : VE X P e fa) (hr : VL.VK X P kws gm) : VL.VK X P (⟨nm, e, kpos⟩ :: kws) (mCons fa gm) := by
  refine PK.weak (pk_cons ha hr) fun σ H Q h => ?_
  obtain ⟨Bf, ow, en, k, d, en', hf, q⟩ := h
  unfold mCons at hf
  split at hf <;> first | cases hf | skip
  rename_i d1 en1 h1
  split at hf <;> first | cases hf | skip
  rename_i ds en2 h2
  exact ⟨Bf, ow, en, k, _, _, h1, fun v1 ow1 H1 k1 r1 p1 => ⟨Bf, ow1, en1, k1, _, _, h2, fun vs ow2 H2 k2 r2 p2 => q _ ow2 H2 k2 (r1.trans r2) ⟨r2.rp p1, p2⟩⟩⟩
def mPerm (m : Nat) (π : List Nat) (g : FM) : FM := fun en => match g en with
  | some (ms, en1) => if ms.length = m then some (permL π ms, en1) else none
  | none => none
theorem pe_callKw {x : Str} {k : Nat} {ps ks : List Str} {π : List Nat} {sp : Sp} {p : Pos} {tk : TA} (D : Def X.prog X.w X.K X.mg X.base x k ps sp) (W : Kwd X.K X.mg x ps ks π) (hr : Room k X.A) (hg : Gl X x) (hk : PK X kws tk)
    (hall : (backToKw pos (keywordEach kws X.env)).all (·.1.isSome) = true := by rfl) (hks : (backToKw pos (keywordEach kws X.env)).filterMap (·.1) = ks := by rfl) (hdb : (x == ("__debug__" : Str)) = false := by decide)
    (hpl : ((backTo pos (starEach [] X.env)).any (·.1) || (backToKw pos (keywordEach kws X.env)).any (·.1.isNone)) = false := by rfl) :
    PE X (.Call (.Name x p) [] kws pos) (fun σ H Q => tk σ H fun zs H2 => zs.length = ks.length ∧ sp (permL π zs) H2 Q (fun _ _ _ => False)) := by
  obtain ⟨f, fd, h1, h2, h3, h4, oc, od, osl, h5⟩ := D.ex
  obtain ⟨f', fd', g1, ⟨oc', od', osl', g2⟩, g3⟩ := W.ex
  rw [h1] at g1
  cases g1
  rw [h5] at g2
  cases g2
  refine ⟨fun pins s σ H Q I h => ?_⟩
  refine wpAny_Call_Name_kw (ld_glob I hg h1 ?_ hdb)
  refine PySem.W.callWith_KW0 (h₀ := X.base) I.ok.mod.kin h2 hall ?_ hpl
  refine thn (hk.run pos pins s σ H _ I h) fun ws s2 ⟨zs, H2, I2, rz, l2, q2⟩ => ⟨I2.kIn, ?_⟩
  rw [hks]
  exact run_fnN (us := []) (vs := []) h4 hr g3 pass0 I2 .nil rz rfl l2 q2
theorem ve_callKw {x : Str} {k n m : Nat} {ps ks : List Str} {π : List Nat} {ps' : List Nat} {F : FF} {p : Pos} (D : Def X.prog X.w X.K X.mg X.base x k ps (spV ⟨ps', P.tb⟩ n F)) (W : Kwd X.K X.mg x ps ks π) (hr : Room k X.A) (hg : Gl X x) (ha : VL.VK X P kws gm)
    (hm : ks.length = m := by rfl) (hall : (backToKw pos (keywordEach kws X.env)).all (·.1.isSome) = true := by rfl) (hks : (backToKw pos (keywordEach kws X.env)).filterMap (·.1) = ks := by rfl) (hdb : (x == ("__debug__" : Str)) = false := by decide)
    (hpl : ((backTo pos (starEach [] X.env)).any (·.1) || (backToKw pos (keywordEach kws X.env)).any (·.1.isNone)) = false := by rfl)
    : VE X P (.Call (.Name x p) [] kws pos) (eCallF ps' n F (mPerm m π gm)) :=
  PE.weak (pe_callKw D W hr hg ha hall hks hdb hpl) fun σ H Q h => by
    subst hm
    have h2 := tv_callF (P := P) (P' := ⟨ps', P.tb⟩) rfl (E := fun _ _ _ => False) σ H Q h
    obtain ⟨Bf, ow, en, k, ms, en1, hm, q⟩ := h2
    unfold mPerm at hm
    split at hm <;> first | cases hm | skip
    rename_i ms0 en2 h0
    split at hm <;> first | cases hm | skip
    rename_i hl
    refine ⟨Bf, ow, en, k, ms0, _, h0, fun vs ow1 H1 k1 r1 m1 => ⟨by rw [← m1.length]; exact hl, ?_⟩⟩
    have h9 : spV ⟨ps', P.tb⟩ n F (permL π vs ++ []) H1 Q (fun _ _ _ => False) := q (permL π vs) ow1 H1 k1 r1 (m1.perm π)
    rw [List.append_nil] at h9
    exact h9
theorem vf_callKw {x : Str} {k n m : Nat} {ps ks : List Str} {π : List Nat} {ps' : List Nat} {F : FFL} {p : Pos} (D : Def X.prog X.w X.K X.mg X.base x k ps (spL ⟨ps', P.tb⟩ n F)) (W : Kwd X.K X.mg x ps ks π) (hr : Room k X.A) (hg : Gl X x) (ha : VL.VK X P kws gm)
    (hm : ks.length = m := by rfl) (hall : (backToKw pos (keywordEach kws X.env)).all (·.1.isSome) = true := by rfl) (hks : (backToKw pos (keywordEach kws X.env)).filterMap (·.1) = ks := by rfl) (hdb : (x == ("__debug__" : Str)) = false := by decide)
    (hpl : ((backTo pos (starEach [] X.env)).any (·.1) || (backToKw pos (keywordEach kws X.env)).any (·.1.isNone)) = false := by rfl)
    : VF X P (.Call (.Name x p) [] kws pos) (lCallF ps' n F (mPerm m π gm)) :=
  PE.weak (pe_callKw D W hr hg ha hall hks hdb hpl) fun σ H Q h => by
    subst hm
    have h2 := tvF_callF (P := P) (P' := ⟨ps', P.tb⟩) rfl (E := fun _ _ _ => False) σ H Q h
    obtain ⟨Bf, ow, en, k, ms, en1, hm, q⟩ := h2
    unfold mPerm at hm
    split at hm <;> first | cases hm | skip
    rename_i ms0 en2 h0
    split at hm <;> first | cases hm | skip
    rename_i hl
    refine ⟨Bf, ow, en, k, ms0, _, h0, fun vs ow1 H1 k1 r1 m1 => ⟨by rw [← m1.length]; exact hl, ?_⟩⟩
    have h9 : spL ⟨ps', P.tb⟩ n F (permL π vs ++ []) H1 Q (fun _ _ _ => False) := q (permL π vs) ow1 H1 k1 r1 (m1.perm π)
    rw [List.append_nil] at h9
    exact h9
end
end VL

namespace VL
open PySem PySem.Spec
open PyProof.Rows L2
/-! ### values that may reach lists of one's own, for a call that gives back a flat value -/
abbrev NoB : Addr → Prop := fun _ => False
theorem Rp.no {H : Hp} {B : Addr → Prop} {d : D} {v : V} (r : Rp H B d v) : Rp H NoB d v := r.move fun b o e _ _ => ⟨e, fun z => z⟩
theorem RpL.no {H : Hp} {B : Addr → Prop} {d : List D} {v : List V} (r : RpL H B d v) : RpL H NoB d v := r.move fun b o e _ _ => ⟨e, fun z => z⟩
abbrev FU := En → Option D
def tvU (P : Pl) (f : FU) : TE := fun σ H Q => ∃ Bf ow en, Ok P Bf ow en σ H ∧ ∃ d, f en = some d ∧ ∀ v H', Ok P Bf ow en σ H' → Ext H H' → Rp H' NoB d v → Q v H'
def VU (X : Cx) (P : Pl) (e : Expr) (f : FU) : Prop := PE X e (tvU P f)
abbrev FUL := En → Option (List D)
def tvUL (P : Pl) (f : FUL) : TA := fun σ H Q => ∃ Bf ow en, Ok P Bf ow en σ H ∧ ∃ ds, f en = some ds ∧ ∀ vs H', Ok P Bf ow en σ H' → Ext H H' → RpL H' NoB ds vs → Q vs H'
def VUL (X : Cx) (P : Pl) (es : List Expr) (f : FUL) : Prop := PA X es (tvUL P f)
def tvAU (P : Pl) (f : FA) : TA := fun σ H Q => ∃ Bf ow en, Ok P Bf ow en σ H ∧ ∃ ds en', f en = some (ds, en') ∧ ∀ vs ow' H', Ok P Bf ow' en' σ H' → Rel P H ow H' ow' → RpL H' NoB ds vs → Q vs H'
def VAU (X : Cx) (P : Pl) (es : List Expr) (f : FA) : Prop := PA X es (tvAU P f)
section
variable {X : Cx} {P : Pl} {a b e : Expr} {es : List Expr} {fa : FE} {fu : FU} {gu : FUL} {ga : FA} {pos : Pos}
def uVar (i : Nat) : FU := fun en => match en[i]? with
  | some (.va d) => some d
  | some (.vn d) => some d
  | some (.ow ds) => some (.list ds)
  | _ => none
theorem vu_var {i : Nat} {x : Str} (hN : X.N[i]? = some x) (hv : Vis X.env.scope x := by first | exact .inl rfl | exact .inr (.inl rfl) | exact .inr (.inr rfl)) (hd : (x == ("__debug__" : Str)) = false := by decide) (hcd : (x == ("__classdict__" : Str)) = false := by decide) : VU X P (.Name x pos) (uVar i) := by
  refine PE.weak (pe_var hN hv hd hcd) fun σ H Q h => ?_
  obtain ⟨Bf, ow, en, k, d, hf, q⟩ := h
  unfold uVar at hf
  split at hf
  · rename_i d' he
    cases hf
    obtain ⟨v, h1, h2⟩ := k.hva i d he
    exact ⟨v, h1, q v H k .refl h2.no⟩
  · rename_i d' he
    cases hf
    obtain ⟨v, h1, h2⟩ := k.hvn i d he
    exact ⟨v, h1, q v H k .refl h2.rp.no⟩
  · rename_i ds he
    cases hf
    obtain ⟨a, xs, h1, h2, h3, h4⟩ := k.hown i ds he
    exact ⟨_, h2, q _ H k .refl (.lst (fun z => z) (.inl h3) h4.no)⟩
  · cases hf
theorem vul_nil : VUL X P [] (fun _ => some []) := by
  refine PA.weak pa_nil fun σ H Q h => ?_
  obtain ⟨Bf, ow, en, k, d, hf, q⟩ := h
  cases hf
  exact q [] H k .refl .nil
def ulCons (f : FU) (g : FUL) : FUL := fun en => match f en with
  | some d => match g en with
    | some ds => some (d :: ds)
    | none => none
  | none => none
theorem vul_cons (ha : VU X P e fu) (hr : VUL X P es gu) (hs : starEach (e :: es) X.env = (false, eval e X.env) :: starEach es X.env := by rfl) : VUL X P (e :: es) (ulCons fu gu) := by
  refine PA.weak (pa_cons ha hr hs) fun σ H Q h => ?_
  obtain ⟨Bf, ow, en, k, d, hf, q⟩ := h
  unfold ulCons at hf
  split at hf <;> first | cases hf | skip
  rename_i d1 h1
  split at hf <;> first | cases hf | skip
  rename_i ds h2
  exact ⟨Bf, ow, en, k, _, h1, fun v1 H1 k1 x1 p1 => ⟨Bf, ow, en, k1, _, h2, fun vs H2 k2 x2 p2 => q _ H2 k2 (x1.trans x2) (.cons (x2.rp p1) p2)⟩⟩
def uLst (g : FUL) : FU := fun en => match g en with
  | some ds => if ds.length ≤ sizeLine then some (.list ds) else none
  | none => none
def uTup (g : FUL) : FU := fun en => match g en with
  | some ds => if ds.length ≤ sizeLine then some (.tuple ds) else none
  | none => none
theorem vu_lst (h : VUL X P es gu) : VU X P (.List es pos) (uLst gu) := by
  refine PE.weak (pe_lst h) fun σ H Q h => ?_
  obtain ⟨Bf, ow, en, k, d, hf, q⟩ := h
  unfold uLst at hf
  split at hf <;> first | cases hf | skip
  rename_i ds h1
  split at hf <;> first | cases hf | skip
  rename_i hz
  exact ⟨Bf, ow, en, k, _, h1, fun vs H1 k1 x1 p1 => ⟨by rw [← p1.length]; exact hz, fun p hp => q _ _ (k1.ext (.upd hp)) (x1.trans (.upd hp)) (.lst (fun z => z) (.inl upd_same) ((Ext.upd hp).rpl p1))⟩⟩
theorem vu_tup {x1} (h : VUL X P es gu) : VU X P (.Tuple es x1 pos) (uTup gu) := by
  refine PE.weak (pe_tup h) fun σ H Q h => ?_
  obtain ⟨Bf, ow, en, k, d, hf, q⟩ := h
  unfold uTup at hf
  split at hf <;> first | cases hf | skip
  rename_i ds h1
  split at hf <;> first | cases hf | skip
  rename_i hz
  exact ⟨Bf, ow, en, k, _, h1, fun vs H1 k1 x1 p1 => ⟨by rw [← p1.length]; exact hz, fun p hp => q _ _ (k1.ext (.upd hp)) (x1.trans (.upd hp)) (.tup (fun z => z) upd_same ((Ext.upd hp).rpl p1))⟩⟩
def auEnd (g : FUL) : FA := fun en => match g en with
  | some ds => some (ds, en)
  | none => none
theorem vau_end (h : VUL X P es gu) : VAU X P es (auEnd gu) := PA.weak h fun σ H Q h => by
  obtain ⟨Bf, ow, en, k, d, en', hf, q⟩ := h
  unfold auEnd at hf
  split at hf <;> first | cases hf | skip
  rename_i ds h1
  exact ⟨Bf, ow, _, k, _, h1, fun vs H1 k1 x1 p1 => q vs ow H1 k1 x1.rel p1⟩
theorem vau_cons (ha : VE X P e fa) (hr : VAU X P es ga) (hs : starEach (e :: es) X.env = (false, eval e X.env) :: starEach es X.env := by rfl) : VAU X P (e :: es) (aCons fa ga) := by
  refine PA.weak (pa_cons ha hr hs) fun σ H Q h => ?_
  obtain ⟨Bf, ow, en, k, d, en', hf, q⟩ := h
  unfold aCons at hf
  split at hf <;> first | cases hf | skip
  rename_i d1 en1 h1
  split at hf <;> first | cases hf | skip
  rename_i ds en2 h2
  exact ⟨Bf, ow, en, k, _, _, h1, fun v1 ow1 H1 k1 r1 p1 => ⟨Bf, ow1, en1, k1, _, _, h2, fun vs ow2 H2 k2 r2 p2 => q _ ow2 H2 k2 (r1.trans r2) (.cons (r2.rp p1).no p2)⟩⟩
def eCallU (n : Nat) (F : FF) (g : FA) : FE := fun en => match g en with
  | some (ds, en1) => if ds.length = n then (match F (ds.map Sl.va) with
    | some (d, _) => if flatD d = true then some (d, en1) else none
    | none => none) else none
  | none => none
theorem ve_callU {x : Str} {k n : Nat} {ps : List Str} {F : FF} {p : Pos} (D : Def X.prog X.w X.K X.mg X.base x k ps (spV ⟨[], P.tb⟩ n F)) (hr : Room k X.A) (hg : Gl X x) (ha : VAU X P (e :: es) ga)
    (hdb : (x == ("__debug__" : Str)) = false := by decide) (he : starEach (e :: es) X.env = (false, eval e X.env) :: starEach es X.env := by rfl) (hpl : (backTo pos (starEach es X.env)).any (·.1) = false := by rfl) :
    VE X P (.Call (.Name x p) (e :: es) [] pos) (eCallU n F ga) := by
  obtain ⟨f, fd, h1, h2, h3, h4, _⟩ := D.ex
  refine PE.weak (pe_call (E := fun _ _ _ => False) h4 hr hg h1 h2 h3 .nil pass0 ha hdb he hpl) fun σ H Q h => ?_
  obtain ⟨Bf, ow, en, k, d, en', hf, q⟩ := h
  unfold eCallU at hf
  split at hf <;> first | cases hf | skip
  rename_i ds en1 g1
  split at hf <;> first | cases hf | skip
  rename_i hl
  split at hf <;> first | cases hf | skip
  rename_i d' as' hF
  split at hf <;> first | cases hf | skip
  rename_i hfl
  refine ⟨Bf, ow, en, k, ds, _, g1, fun vs ow1 H1 k1 r1 p1 => ?_⟩
  show spV ⟨[], P.tb⟩ n F (vs ++ []) H1 Q _
  rw [List.append_nil]
  have kc : Ok ⟨[], P.tb⟩ ⟨fun _ => False, fun _ => False⟩ (fun _ => none) (ds.map Sl.va) (vs.map some) H1 := by
    refine ⟨by simp [p1.length], fun j d e => ?_, fun j d e => ?_, fun j s e f => ?_, fun j a e => (nomatch e), fun j l a e _ => (nomatch e), fun b z => z.elim, fun b z => z.elim, fun j a e => (nomatch e), k1.htab⟩
    · rw [List.getElem?_map] at e
      cases em : ds[j]? with
      | none => rw [em] at e; cases e
      | some m =>
        rw [em] at e
        cases e
        obtain ⟨v, w1, w2⟩ := p1.get em
        exact ⟨v, by rw [List.getElem?_map, w1]; rfl, w2.move fun b o e _ _ => ⟨e, fun z => z.elim (fun z => z) fun ⟨_, z⟩ => nomatch z⟩⟩
    · rw [List.getElem?_map] at e
      cases em : ds[j]? with
      | none => rw [em] at e; cases e
      | some m => rw [em] at e; cases e
    · rw [List.getElem?_map] at e
      cases em : ds[j]? with
      | none => rw [em] at e; cases e
      | some m => rw [em] at e; cases e; cases f
  have noN : ∀ (j : Nat) (d : VL.D), (ds.map Sl.va)[j]? ≠ some (Sl.vn d) := fun j d e => by
    rw [List.getElem?_map] at e
    cases em : ds[j]? with
    | none => rw [em] at e; cases e
    | some m => rw [em] at e; cases e
  refine ⟨_, fun _ => none, _, by rw [List.length_map]; exact hl, kc, (fun i a e => (nomatch e)), noN, d, as', hF, fun v H' af p => ?_⟩
  have ex : ExtT P.tb H1 H' := ⟨fun b o e t => af.keep b o e t fun j z => (nomatch z), af.dom, (fun _ => af.tab), af.ntk⟩
  exact q v ow1 H' (k1.extT ex) (r1.trans ex.rel) (p.flat hfl)
end
end VL

namespace VL
open PySem PySem.Spec
open PyProof.Rows L2

theorem pl_not {i : Nat} {ps : List Nat} {tb : List (Addr × Str)} (h : i ∉ ps) : i ∉ (⟨ps, tb⟩ : Pl) := h
theorem pl_all {vs ps : List Nat} {tb : List (Addr × Str)} (h : ∀ i ∈ vs, i ∉ ps) : ∀ i ∈ vs, i ∉ (⟨ps, tb⟩ : Pl) := h
/-! ### dicts of one's own: keys by data -/
def keyF : D → Option Key
  | .int n => some (.inl n)
  | .str x => some (.inr x)
  | _ => none
def keysF : List D → Option (List Key)
  | [] => some []
  | d :: r => match keyF d with
    | some k => match keysF r with
      | some ks => some (k :: ks)
      | none => none
    | none => none
/-- a key: a number or a text (t false), a tuple of these (t true) -/
def keyD (t : Bool) : D → Option (List Key)
  | .tuple ds => if t then keysF ds else none
  | d => if t then none else (keyF d).map fun k => [k]
/-- a key's data -/
def kToD (t : Bool) (k : List Key) : D := if t then .tuple (k.map kD) else match k with
  | k :: _ => kD k
  | [] => .none
theorem keyF_v {H : Hp} {B : Addr → Prop} {d : D} {v : V} {k : Key} (r : Rp H B d v) (e : keyF d = some k) : v = kV k := by
  cases r <;> simp [keyF] at e <;> subst e <;> rfl
theorem keysF_v {H : Hp} {B : Addr → Prop} : ∀ {ds : List D} {vs : List V} {ks : List Key}, RpL H B ds vs → keysF ds = some ks → vs = ks.map kV
  | [], _, _, .nil, e => by cases e; rfl
  | d :: ds, _, ks, .cons (v := v) (vs := vs) r rs, e => by
    unfold keysF at e
    split at e <;> first | cases e | skip
    rename_i k h1
    split at e <;> first | cases e | skip
    rename_i ks' h2
    rw [List.map_cons, keyF_v r h1, keysF_v rs h2]
theorem keyD_f {H : Hp} {B : Addr → Prop} {d : D} {v : V} {k : List Key} (r : Rp H B d v) (e : keyD false d = some k) : ∃ k0, k = [k0] ∧ v = kV k0 := by
  unfold keyD at e
  split at e
  · cases e
  · cases h : keyF d with
    | none => rw [h] at e; cases e
    | some k0 =>
      rw [h] at e
      cases e
      exact ⟨k0, rfl, keyF_v r h⟩
theorem keyD_t {H : Hp} {B : Addr → Prop} {d : D} {v : V} {k : List Key} (r : Rp H B d v) (e : keyD true d = some k) : ∃ b, v = .ref b ∧ H b = some (.tup (k.map kV)) := by
  unfold keyD at e
  split at e
  · rename_i ds
    cases r with
    | tup nb r rs =>
      have := keysF_v rs e
      subst this
      exact ⟨_, rfl, r⟩
  · cases e
def valD (kvs : DKV) (k : List Key) : Option D := (kvs.find? fun p => decide (p.1 = k)).map (·.2)
def putD (kvs : DKV) (k : List Key) (d : D) : DKV :=
  if (kvs.any fun p => decide (p.1 = k)) = true then kvs.map (fun p => if p.1 = k then (p.1, d) else p) else kvs ++ [(k, d)]
def RelO' (H : Hp) (B : Addr → Prop) : Option D → Option V → Prop
  | some d, some v => Rp H B d v
  | none, none => True
  | _, _ => False
theorem pr_val {κ : Type} [DecidableEq κ] {H : Hp} {B : Addr → Prop} {f : κ → List Key} (hf : ∀ a b, f a = f b → a = b) (k : κ) : ∀ {kvs : DKV} {ks : List (κ × V)}, Paired (fun (p : List Key × D) (q : κ × V) => p.1 = f q.1 ∧ Rp H B p.2 q.2) kvs ks → RelO' H B (valD kvs (f k)) (valV ks k)
  | _, _, .nil => trivial
  | _, _, .cons (a := p) (b := q) r rs => by
    by_cases h : q.1 = k
    · have h' : p.1 = f k := by rw [r.1, h]
      have e1 : ∀ kvs, valD (p :: kvs) (f k) = some p.2 := fun kvs => by simp [valD, List.find?_cons, h']
      have e2 : ∀ ks, valV (q :: ks) k = some q.2 := fun ks => by simp [valV, List.find?_cons, h]
      rw [e1, e2]
      exact r.2
    · have h' : ¬ p.1 = f k := fun z => h (hf _ _ (r.1.symm.trans z))
      have e1 : ∀ kvs, valD (p :: kvs) (f k) = valD kvs (f k) := fun kvs => by simp [valD, List.find?_cons, h']
      have e2 : ∀ ks, valV (q :: ks) k = valV ks k := fun ks => by simp [valV, List.find?_cons, h]
      rw [e1, e2]
      exact pr_val hf k rs
theorem pr_any {κ : Type} [DecidableEq κ] {H : Hp} {B : Addr → Prop} {f : κ → List Key} (hf : ∀ a b, f a = f b → a = b) (k : κ) : ∀ {kvs : DKV} {ks : List (κ × V)}, Paired (fun (p : List Key × D) (q : κ × V) => p.1 = f q.1 ∧ Rp H B p.2 q.2) kvs ks → (kvs.any fun p => decide (p.1 = f k)) = ks.any fun kv => decide (kv.1 = k)
  | _, _, .nil => rfl
  | _, _, .cons (a := p) (b := q) r rs => by
    rw [List.any_cons, List.any_cons, pr_any hf k rs]
    congr 1
    rw [decide_eq_decide, r.1]
    exact ⟨fun z => hf _ _ z, fun z => by rw [z]⟩
theorem pr_snoc {κ : Type} {F : List Key × D → κ × V → Prop} {p : List Key × D} {q : κ × V} (r : F p q) : ∀ {kvs : DKV} {ks : List (κ × V)}, Paired F kvs ks → Paired F (kvs ++ [p]) (ks ++ [q])
  | _, _, .nil => .cons r .nil
  | _, _, .cons h t => .cons h (pr_snoc r t)
theorem pr_map {κ : Type} [DecidableEq κ] {H : Hp} {B : Addr → Prop} {f : κ → List Key} (hf : ∀ a b, f a = f b → a = b) (k : κ) {d : D} {v : V} (rd : Rp H B d v) : ∀ {kvs : DKV} {ks : List (κ × V)}, Paired (fun (p : List Key × D) (q : κ × V) => p.1 = f q.1 ∧ Rp H B p.2 q.2) kvs ks →
    Paired (fun (p : List Key × D) (q : κ × V) => p.1 = f q.1 ∧ Rp H B p.2 q.2) (kvs.map (fun p => if p.1 = f k then (p.1, d) else p)) (ks.map fun kv => if kv.1 = k then (kv.1, v) else kv)
  | _, _, .nil => .nil
  | _, _, .cons (a := p) (b := q) r rs => by
    rw [List.map_cons, List.map_cons]
    refine .cons ?_ (pr_map hf k rd rs)
    by_cases e : q.1 = k
    · rw [if_pos e, if_pos (by rw [r.1, e])]
      exact ⟨r.1, rd⟩
    · rw [if_neg e, if_neg fun z => e (hf _ _ (r.1.symm.trans z))]
      exact r
theorem pr_put {κ : Type} [DecidableEq κ] {H : Hp} {B : Addr → Prop} {f : κ → List Key} (hf : ∀ a b, f a = f b → a = b) (k : κ) {d : D} {v : V} (rd : Rp H B d v) {kvs : DKV} {ks : List (κ × V)} (h : Paired (fun (p : List Key × D) (q : κ × V) => p.1 = f q.1 ∧ Rp H B p.2 q.2) kvs ks) :
    Paired (fun (p : List Key × D) (q : κ × V) => p.1 = f q.1 ∧ Rp H B p.2 q.2) (putD kvs (f k) d) (putK ks k v) := by
  unfold putD putK
  rw [pr_any hf k h]
  split
  · exact pr_map hf k rd h
  · exact pr_snoc (p := (f k, d)) (q := (k, v)) ⟨rfl, rd⟩ h
theorem single_inj : ∀ a b : Key, [a] = [b] → a = b := fun a b e => by injection e
theorem DcAt.get {H : Hp} {B : Addr → Prop} {a : Addr} {t : DT} {kvs : DKV} {dk : D} {y : V} {k : List Key} (h : DcAt H B a t kvs) (r : Rp H B dk y) (e : keyD t.t dk = some k) : ∃ o, DGet H a y o ∧ RelO' H B (valD kvs k) o := by
  obtain ⟨t, l⟩ := t
  cases t with
  | false =>
    obtain ⟨ks, h1, h2⟩ := h
    obtain ⟨k0, rfl, rfl⟩ := keyD_f r e
    exact ⟨_, .inl ⟨_, _, h1.rd, rfl, rfl⟩, pr_val (f := fun k => [k]) single_inj k0 h2⟩
  | true =>
    obtain ⟨ks, h1, h2⟩ := h
    obtain ⟨b, rfl, hb⟩ := keyD_t r e
    exact ⟨_, .inr ⟨_, _, _, h1.rd, rfl, hb, rfl⟩, pr_val (f := fun k => k) (fun _ _ z => z) k h2⟩
theorem Paired.len {α β : Type} {F : α → β → Prop} : ∀ {l₁ : List α} {l₂ : List β}, Paired F l₁ l₂ → l₁.length = l₂.length
  | _, _, .nil => rfl
  | _, _, .cons _ t => congrArg (· + 1) (Paired.len t)
theorem DcAt.nofrz {H : Hp} {B : Addr → Prop} {a : Addr} {t : Bool} {kvs : DKV} (h : DcAt H B a ⟨t, false⟩ kvs) : ∀ o u, H a ≠ some (.frz o u) := fun o u z => by
  cases t with
  | false =>
    obtain ⟨ks, h1, _⟩ := h
    have h1 : H a = _ := h1
    rw [z] at h1
    cases h1
  | true =>
    obtain ⟨ks, h1, _⟩ := h
    have h1 : H a = _ := h1
    rw [z] at h1
    cases h1
/-- written -/
theorem DcAt.put {H : Hp} {B : Addr → Prop} {a : Addr} {t : Bool} {kvs : DKV} {dk d : D} {y v : V} {k : List Key} (h : DcAt H B a ⟨t, false⟩ kvs) (ha : B a) (r : Rp H B dk y) (e : keyD t dk = some k) (rd : Rp H B d v) (hl : kvs.length < sizeLine) : ∃ o', NT o' ∧ DPut H a y v (upd H a o') ∧ OwnAt (upd H a o') B a (.dc ⟨t, false⟩ (putD kvs k d)) := by
  have mv : ∀ o', ∀ b o, H b = some o → NT o → ¬ B b → upd H a o' b = some o ∧ ¬ B b := fun o' b o h t n => ⟨by rw [upd_ne fun z => n (by rw [z]; exact ha)]; exact h, n⟩
  cases t with
  | false =>
    obtain ⟨ks, h1, h2⟩ := h
    obtain ⟨k0, rfl, rfl⟩ := keyD_f r e
    refine ⟨.dK (putK ks k0 v), (fun _ z => nomatch z), DPut.k h1 (by rw [← Paired.len h2]; exact hl), _, upd_same, ?_⟩
    exact Paired.mapP (pr_put (f := fun k => [k]) single_inj k0 rd h2) fun p q z => ⟨z.1, z.2.move (mv _)⟩
  | true =>
    obtain ⟨ks, h1, h2⟩ := h
    obtain ⟨b, rfl, hb⟩ := keyD_t r e
    refine ⟨.dT (putK ks k v), (fun _ z => nomatch z), DPut.t h1 hb (by rw [← Paired.len h2]; exact hl), _, upd_same, ?_⟩
    exact Paired.mapP (pr_put (f := fun k => k) (fun _ _ z => z) k rd h2) fun p q z => ⟨z.1, z.2.move (mv _)⟩
theorem DcAt.isD {H : Hp} {B : Addr → Prop} {a : Addr} {t : DT} {kvs : DKV} (h : DcAt H B a t kvs) : IsD H a := by
  obtain ⟨t, l⟩ := t
  cases t with
  | false =>
    obtain ⟨ks, h1, h2⟩ := h
    exact .inl ⟨_, h1.rd⟩
  | true =>
    obtain ⟨ks, h1, h2⟩ := h
    exact .inr ⟨_, h1.rd⟩

def isDc : Option Sl → Bool
  | some (.dc _ _) => true
  | _ => false
theorem isDc_of {o : Option Sl} (h : isDc o = true) : ∃ t kvs, o = some (.dc t kvs) := by
  unfold isDc at h
  split at h
  · exact ⟨_, _, rfl⟩
  · cases h
section
variable {X : Cx} {P : Pl} {a b e ix : Expr} {es : List Expr} {fa fb fc : FE} {ga : FA} {pos apos cpos : Pos}
/-- x = {} -/
def sNewD (i : Nat) (t : Bool) : FS := fun en => if i < en.length then some (.nx (en.set i (.dc ⟨t, false⟩ []))) else none
theorem put_relO {ow ow1 : Nat → Option Addr} {H H1 : Hp} {p : Addr} {i : Nat} (hP : i ∉ P) (r : Rel P H ow H1 ow1) (hp : H p = none) : RelS P H ow H1 (putOw ow1 i p) := put_rel hP r hp
theorem vs_newD {i : Nat} {x : Str} {pos' dpos : Pos} (t : Bool) (hN : X.N.Nodup) (hi : X.N[i]? = some x) (hx : Loc X.env.scope x := by first | exact .inl rfl | exact .inr rfl) (hP : i ∉ P) (hs : swapsWith (.Dict [] [] dpos) (some (.Name x pos')) pos.line X.env = pure false := by rfl)
    (hf : X.fn x = true ∨ X.env.scope.names.lookup x = some .local := by first | exact .inl rfl | exact .inr rfl | assumption) : VS X P (.Assign [.Name x pos'] (.Dict [] [] dpos) pos) (sNewD i t) := by
  have key : ∀ (Dn : Ends) (σ : L2.St) (H : Hp), tvS P (sNewD i t) Dn σ H → ∀ p, H p = none → ∀ o', (∀ xs, o' ≠ .tup xs) → OwnAt (upd H p o') NoB p (.dc ⟨t, false⟩ []) → Dn.nx (σ.set i (some (.ref p))) (upd H p o') := fun Dn σ H h p hp o' ntu ho => by
    obtain ⟨Bf, ow, en, k, o, hf, q⟩ := h
    unfold sNewD at hf
    split at hf <;> first | cases hf | skip
    rename_i hl
    have np := k.nb hp
    have ho2 : OwnAt (upd H p o') (blk (insB Bf p) ow) p (.dc ⟨t, false⟩ []) := by
      cases t with
      | false =>
        obtain ⟨ks, h1, h2⟩ := ho
        cases h2
        exact ⟨[], h1, .nil⟩
      | true =>
        obtain ⟨ks, h1, h2⟩ := ho
        cases h2
        exact ⟨[], h1, .nil⟩
    exact q _ _ _ ((k.avoid hp ntu).putO rfl hP hl (fun z => np (.inl z)) (fun z => k.hod p z hp) (fun j z => np (.inr ⟨j, z⟩)) ho2) (put_rel hP (Ext.upd hp).rel hp)
  cases t with
  | false => exact PS.weak (ps_set hN hi hx pe_dnewK hs hf) fun Dn σ H h p hp => key Dn σ H h p hp _ (fun _ z => nomatch z) ⟨[], upd_same, .nil⟩
  | true => exact PS.weak (ps_set hN hi hx pe_dnewT hs hf) fun Dn σ H h p hp => key Dn σ H h p hp _ (fun _ z => nomatch z) ⟨[], upd_same, .nil⟩
/-- x[k] = e -/
def sPutD (i : Nat) (f g : FE) : FS := fun en => match f en with
  | some (d, en1) => if isDc en1[i]? then (match g en1 with
    | some (z, en2) => match en2[i]? with
      | some (.dc ⟨t, false⟩ kvs) => match keyD t z with
        | some k => if kvs.length < sizeLine then some (.nx (en2.set i (.dc ⟨t, false⟩ (putD kvs k d)))) else none
        | none => none
      | _ => none
    | none => none) else none
  | none => none
theorem vs_putD {i : Nat} {x : Str} {p' : Pos} (hu : X.A.units + 64 < cLine) (hN : X.N[i]? = some x) (hv : Vis X.env.scope x := by first | exact .inl rfl | exact .inr (.inl rfl) | exact .inr (.inr rfl)) (hx : VE X P ix fb) (he : VE X P e fa)
    (hd : (x == ("__debug__" : Str)) = false := by decide) (hcd : (x == ("__classdict__" : Str)) = false := by decide) (hs : swapsWith e (some (.Subscript (.Name x p') ix apos)) pos.line X.env = pure false := by rfl) :
    VS X P (.Assign [.Subscript (.Name x p') ix apos] e pos) (sPutD i fa fb) :=
  PS.weak (ps_dput (by omega) (pe_var hN hv hd hcd) hx he hs) fun Dn σ H h => by
    obtain ⟨Bf, ow, en, k, o, hf, q⟩ := h
    unfold sPutD at hf
    split at hf <;> first | cases hf | skip
    rename_i d en1 h1
    split at hf <;> first | cases hf | skip
    rename_i h0
    obtain ⟨t0, kvs0, e0⟩ := isDc_of h0
    refine ⟨Bf, ow, en, k, d, en1, h1, fun v ow1 H1 k1 r1 p1 => ?_⟩
    obtain ⟨a, g1, g2, g3⟩ := k1.hdc i t0 kvs0 e0
    split at hf <;> first | cases hf | skip
    rename_i z en2 h2
    split at hf <;> first | cases hf | skip
    rename_i t kvs h3
    split at hf <;> first | cases hf | skip
    rename_i kk hk
    split at hf <;> first | cases hf | skip
    rename_i hl
    refine ⟨_, g2, Bf, ow1, en1, k1, _, en2, h2, fun u ow2 H2 k2 r2 p2 => ?_⟩
    obtain ⟨a', w1, w2, w3⟩ := dc_back k1 k2 r2 h3
    rw [g1] at w1
    cases w1
    obtain ⟨o', nt, hp, ho⟩ := w3.put (.inr ⟨i, w2⟩) p2 hk (r2.rp p1) hl
    obtain ⟨k3, r3⟩ := k2.wrO w2 w3.nofrz rfl nt ho
    exact ⟨a, _, rfl, hp, q _ _ _ k3 ((r1.trans r2).trans r3).s⟩
/-- x[k] -/
def eGetD (i : Nat) (g : FE) : FE := fun en => if isDc en[i]? then (match g en with
  | some (z, en1) => match en1[i]? with
    | some (.dc t kvs) => match keyD t.t z with
      | some k => match valD kvs k with
        | some d => some (d, en1)
        | none => none
      | none => none
    | _ => none
  | none => none) else none
theorem ve_getD {i : Nat} {x : Str} {p' : Pos} (hu : X.A.units + 64 < cLine) (hN : X.N[i]? = some x) (hv : Vis X.env.scope x := by first | exact .inl rfl | exact .inr (.inl rfl) | exact .inr (.inr rfl)) (hx : VE X P ix fb) (hs : NoSl ix := by intro _ _; rfl)
    (hd : (x == ("__debug__" : Str)) = false := by decide) (hcd : (x == ("__classdict__" : Str)) = false := by decide) : VE X P (.Subscript (.Name x p') ix pos) (eGetD i fb) :=
  PE.weak (pe_dget (by omega) (pe_var hN hv hd hcd) hx hs) fun σ H Q h => by
    obtain ⟨Bf, ow, en, k, d, en', hf, q⟩ := h
    unfold eGetD at hf
    split at hf <;> first | cases hf | skip
    rename_i h0
    obtain ⟨t0, kvs0, e0⟩ := isDc_of h0
    obtain ⟨a, g1, g2, g3⟩ := k.hdc i t0 kvs0 e0
    split at hf <;> first | cases hf | skip
    rename_i z en1 h1
    split at hf <;> first | cases hf | skip
    rename_i t kvs h2
    split at hf <;> first | cases hf | skip
    rename_i kk hk
    split at hf <;> first | cases hf | skip
    rename_i d' h3
    refine ⟨_, g2, Bf, ow, en, k, _, _, h1, fun v ow1 H1 k1 r1 p1 => ?_⟩
    obtain ⟨a', w1, w2, w3⟩ := dc_back k k1 r1 h2
    rw [g1] at w1
    cases w1
    obtain ⟨o, u1, u2⟩ := w3.get p1 hk
    rw [h3] at u2
    cases o with
    | none => exact u2.elim
    | some v' => exact ⟨a, v', rfl, u1, q v' ow1 H1 k1 r1 u2⟩
/-- x.get(k, e) -/
def eGetDf (i : Nat) (g f : FE) : FE := fun en => if isDc en[i]? then (match g en with
  | some (z, en1) => match f en1 with
    | some (y, en2) => match en2[i]? with
      | some (.dc t kvs) => match keyD t.t z with
        | some k => some ((valD kvs k).getD y, en2)
        | none => none
      | _ => none
    | none => none
  | none => none) else none
theorem ve_getDf {i : Nat} {x : Str} {p' : Pos} {f : Expr} (hu : X.A.units + 64 < cLine) (hN : X.N[i]? = some x) (hv : Vis X.env.scope x := by first | exact .inl rfl | exact .inr (.inl rfl) | exact .inr (.inr rfl)) (hx : VE X P ix fb) (hy : VE X P f fc)
    (m : M2 X (.Name x p') "get" apos ix f cpos := by exact ⟨rfl, rfl, rfl, rfl⟩)
    (hd : (x == ("__debug__" : Str)) = false := by decide) (hcd : (x == ("__classdict__" : Str)) = false := by decide) : VE X P (.Call (.Attribute (.Name x p') "get" apos) [ix, f] [] cpos) (eGetDf i fb fc) :=
  PE.weak (pe_dget2 (by omega) (pe_var hN hv hd hcd) hx hy m) fun σ H Q h => by
    obtain ⟨Bf, ow, en, k, d, en', hf, q⟩ := h
    unfold eGetDf at hf
    split at hf <;> first | cases hf | skip
    rename_i h0
    obtain ⟨t0, kvs0, e0⟩ := isDc_of h0
    obtain ⟨a, g1, g2, g3⟩ := k.hdc i t0 kvs0 e0
    split at hf <;> first | cases hf | skip
    rename_i z en1 h1
    split at hf <;> first | cases hf | skip
    rename_i y en2 h2
    split at hf <;> first | cases hf | skip
    rename_i t kvs h3
    split at hf <;> first | cases hf | skip
    rename_i kk hk
    refine ⟨_, g2, a, rfl, g3.isD, Bf, ow, en, k, _, _, h1, fun v ow1 H1 k1 r1 p1 => ⟨Bf, ow1, en1, k1, _, _, h2, fun u ow2 H2 k2 r2 p2 => ?_⟩⟩
    obtain ⟨a', w1, w2, w3⟩ := dc_back k k2 (r1.trans r2) h3
    rw [g1] at w1
    cases w1
    obtain ⟨o, u1, u2⟩ := w3.get (r2.rp p1) hk
    refine ⟨o, u1, q _ ow2 H2 k2 (r1.trans r2) ?_⟩
    cases hv : valD kvs kk with
    | none =>
      rw [hv] at u2
      cases o with
      | none => exact p2
      | some _ => exact u2.elim
    | some d' =>
      rw [hv] at u2
      cases o with
      | none => exact u2.elim
      | some _ => exact u2
/-- k in x, k not in x -/
def eInD (neg : Bool) (g : FE) (i : Nat) : FE := fun en => match g en with
  | some (z, en1) => match en1[i]? with
    | some (.dc t kvs) => match keyD t.t z with
      | some k => some (.bool (if neg then !(valD kvs k).isSome else (valD kvs k).isSome), en1)
      | none => none
    | _ => none
  | none => none
theorem RelO'.some_eq {H : Hp} {B : Addr → Prop} {o : Option D} {u : Option V} (r : RelO' H B o u) : o.isSome = u.isSome := by
  cases o <;> cases u <;> first | rfl | exact r.elim
theorem in_reads {i : Nat} {x : Str} {neg : Bool} (hN : X.N[i]? = some x) (σ : L2.St) (H : Hp) (Q : L2.VK) (h : tv P (eInD neg fb i) σ H Q) : tv P fb σ H fun y H1 => ∃ v : V, σ[i]? = some (some v) ∧ ∃ a o, v = .ref a ∧ DGet H1 a y o ∧ Q (.bl (if neg then !o.isSome else o.isSome)) H1 := by
  obtain ⟨Bf, ow, en, k, d, en', hf, q⟩ := h
  unfold eInD at hf
  split at hf <;> first | cases hf | skip
  rename_i z en1 h1
  split at hf <;> first | cases hf | skip
  rename_i t kvs h2
  split at hf <;> first | cases hf | skip
  rename_i kk hk
  refine ⟨Bf, ow, en, k, _, _, h1, fun v ow1 H1 k1 r1 p1 => ?_⟩
  obtain ⟨a, w1, w2, w3⟩ := k1.hdc i t kvs h2
  obtain ⟨o, u1, u2⟩ := w3.get p1 hk
  refine ⟨_, w2, a, o, rfl, u1, ?_⟩
  rw [← u2.some_eq]
  exact q _ ow1 H1 k1 r1 (.bl _)
theorem vt_inD {i : Nat} {x : Str} {p' : Pos} (hu : X.A.units + 64 < cLine) (hN : X.N[i]? = some x) (hv : Vis X.env.scope x := by first | exact .inl rfl | exact .inr (.inl rfl) | exact .inr (.inr rfl)) (hx : VE X P ix fb)
    (hd : (x == ("__debug__" : Str)) = false := by decide) (hcd : (x == ("__classdict__" : Str)) = false := by decide) : VT X P (.Compare ix [.In] [.Name x p'] pos) (fBool (eInD false fb i)) :=
  PT.weak (pt_cmp (pc_din (by omega) hx (pe_var hN hv hd hcd))) fun σ H Q h => by
    obtain ⟨Bf, ow, en, k, d, en', h1, q⟩ := in_reads hN σ H _ (tvT_bool σ H Q h)
    refine ⟨Bf, ow, en, k, d, en', h1, fun v ow1 H1 k1 r1 p1 => ?_⟩
    obtain ⟨v', g1, a, o, g2, g3, g4⟩ := q v ow1 H1 k1 r1 p1
    exact ⟨v', g1, a, o, g2, g3, g4⟩
theorem vt_notinD {i : Nat} {x : Str} {p' : Pos} (hu : X.A.units + 64 < cLine) (hN : X.N[i]? = some x) (hv : Vis X.env.scope x := by first | exact .inl rfl | exact .inr (.inl rfl) | exact .inr (.inr rfl)) (hx : VE X P ix fb)
    (hd : (x == ("__debug__" : Str)) = false := by decide) (hcd : (x == ("__classdict__" : Str)) = false := by decide) : VT X P (.Compare ix [.NotIn] [.Name x p'] pos) (fBool (eInD true fb i)) :=
  PT.weak (pt_cmp (pc_dnotin (by omega) hx (pe_var hN hv hd hcd))) fun σ H Q h => by
    obtain ⟨Bf, ow, en, k, d, en', h1, q⟩ := in_reads hN σ H _ (tvT_bool σ H Q h)
    refine ⟨Bf, ow, en, k, d, en', h1, fun v ow1 H1 k1 r1 p1 => ?_⟩
    obtain ⟨v', g1, a, o, g2, g3, g4⟩ := q v ow1 H1 k1 r1 p1
    exact ⟨v', g1, a, o, g2, g3, g4⟩
end
end VL

namespace VL
open PySem PySem.Spec
open PyProof.Rows L2

/-! ### is, is not: None, truth values -/
def gIsA : D → D → Option D
  | d, .none => some (.bool (isNone d))
  | .bool a, .bool b => some (.bool (decide (a = b)))
  | _, _ => none
def gIsNotA : D → D → Option D
  | d, .none => some (.bool (!isNone d))
  | .bool a, .bool b => some (.bool (!decide (a = b)))
  | _, _ => none
def rIsA : R2 := fun x y H Q => (y = .non ∧ Q (.bl (decide (x = .non))) H) ∨ rIsB x y H Q
def rIsNotA : R2 := fun x y H Q => (y = .non ∧ Q (.bl (!decide (x = .non))) H) ∨ rNotB x y H Q
theorem op_isA {X : Cx} : OpR X (compareOp .Is) rIsA := op_isN.or op_isBl
theorem op_isNotA {X : Cx} : OpR X (compareOp .IsNot) rIsNotA := op_notN.or op_notBl
theorem ov_isA : OpV rIsA gIsA := by
  intro H B d1 d2 d v1 v2 Q e p1 p2 nb q
  unfold gIsA at e
  split at e
  · cases e
    cases p2
    refine .inl ⟨rfl, q _ H .refl ?_⟩
    rw [p1.none_iff]
    exact .bl _
  · cases e
    cases p1
    cases p2
    exact .inr ⟨_, _, rfl, rfl, q _ H .refl (.bl _)⟩
  · cases e
theorem ov_isnotA : OpV rIsNotA gIsNotA := by
  intro H B d1 d2 d v1 v2 Q e p1 p2 nb q
  unfold gIsNotA at e
  split at e
  · cases e
    cases p2
    refine .inl ⟨rfl, q _ H .refl ?_⟩
    rw [p1.none_iff]
    exact .bl _
  · cases e
    cases p1
    cases p2
    exact .inr ⟨_, _, rfl, rfl, q _ H .refl (.bl _)⟩
  · cases e

/-! ### repr of numbers, truth values, None -/
def gRepr : List D → Option D
  | [.int i] => if i.natAbs.log2 < 1920 then some (.str (toString i)) else none
  | [.bool b] => some (.str (if b then "True" else "False"))
  | [.none] => some (.str "None")
  | _ => none
def rRepr : List V → Hp → L2.VK → Prop := fun xs H Q => (∃ i : Int, xs = [.int i] ∧ i.natAbs.log2 < 1920 ∧ Q (.str (toString i)) H) ∨ (∃ b, xs = [.bl b] ∧ Q (.str (if b then "True" else "False")) H) ∨ (xs = [.non] ∧ Q (.str "None") H)
theorem call_repr {X : Cx} : CallR X (.builtin "repr") rRepr := by
  intro pins s σ H xs us Q I r h
  rcases h with ⟨i, rfl, hz, q⟩ | ⟨b, rfl, q⟩ | ⟨rfl, q⟩
  · obtain ⟨u, rfl, t, rfl⟩ := vals1 r
    exact PySem.P.repr_of_int hz ⟨.str _, H, I.tok _, ⟨_, rfl⟩, q⟩
  · obtain ⟨u, rfl, rx⟩ := vals1 r
    cases rx
    exact PySem.P.repr_of_bool ⟨.str _, H, I.tok _, ⟨_, rfl⟩, q⟩
  · obtain ⟨u, rfl, rx⟩ := vals1 r
    cases rx
    exact PySem.P.repr_of_none ⟨.str _, H, I.tok _, ⟨_, rfl⟩, q⟩
theorem ca_repr : CaV rRepr gRepr := by
  intro H B ds d vs Q e r nb q
  unfold gRepr at e
  split at e
  · split at e <;> first | cases e | skip
    rename_i h
    cases r with
    | cons p r =>
      cases r
      cases p
      exact .inl ⟨_, rfl, h, q _ H .refl (.str _)⟩
  · cases e
    cases r with
    | cons p r =>
      cases r
      cases p
      exact .inr (.inl ⟨_, rfl, q _ H .refl (.str _)⟩)
  · cases e
    cases r with
    | cons p r =>
      cases r
      cases p
      exact .inr (.inr ⟨rfl, q _ H .refl (.str _)⟩)
  · cases e

/-! ### type(x) == T -/
section
variable {X : Cx} {P : Pl} {a b e : Expr} {es : List Expr} {fa fb : FE} {ga : FA} {pos apos cpos : Pos}
theorem tv_typ {T : String} {neg : Bool} (hT : T ∈ tyNames) (σ : L2.St) (H : Hp) (Q : L2.VK) (h : tv P (eTyp neg T fa) σ H Q) :
    tv P fa σ H fun v H1 => ∃ a, TyB X.K H1 v a ∧ a ∈ tyNames ∧ Q (.bl (if neg then !decide (a = T) else decide (a = T))) H1 := by
  obtain ⟨Bf, ow, en, k, d, en', hf, q⟩ := h
  unfold eTyp at hf
  split at hf <;> first | cases hf | skip
  rename_i d1 h1
  refine ⟨Bf, ow, en, k, d1, _, h1, fun v ow1 H1 k1 r1 p1 => ⟨typD d1, p1.tyb, typD_in _, ?_⟩⟩
  exact q _ ow1 H1 k1 r1 (.bl _)
theorem ve_typEq {T : String} {x : Str} {p1 p2 cpos : Pos} (hT : T ∈ tyNames) (hg : Gl X "type") (hm : X.mg "type" = none) (hgT : Gl X x) (hmT : X.mg x = none) (hbT : bootBuiltins x = some (.type T)) (he : VE X P e fa)
    (hnT : x ≠ "__name__" := by decide) (hdT : (x == ("__debug__" : Str)) = false := by decide) (hst : starEach [e] X.env = (false, eval e X.env) :: starEach [] X.env := by rfl) (hpl : (backTo cpos (starEach [] X.env)).any (·.1) = false := by rfl) :
    VE X P (.Compare (.Call (.Name "type" p1) [e] [] cpos) [.Eq] [.Name x p2] pos) (eTyp false T fa) :=
  PE.weak (pe_cmpR op_tyEq (pe_typ hg hm he hst hpl) (pe_bltn (v := .ty T) hgT hmT hbT rfl hnT hdT) (nomark _)) fun σ H Q h => by
    obtain ⟨Bf, ow, en, k, d, en', h1, q⟩ := tv_typ (X := X) hT σ H Q h
    exact ⟨Bf, ow, en, k, d, en', h1, fun v ow1 H1 k1 r1 p1 => by
      obtain ⟨a, g1, g2, g3⟩ := q v ow1 H1 k1 r1 p1
      exact ⟨v, a, rfl, g1, _, _, rfl, rfl, g2, hT, g3⟩⟩
theorem vt_typEq {T : String} {x : Str} {p1 p2 cpos : Pos} (hT : T ∈ tyNames) (hg : Gl X "type") (hm : X.mg "type" = none) (hgT : Gl X x) (hmT : X.mg x = none) (hbT : bootBuiltins x = some (.type T)) (he : VE X P e fa)
    (hnT : x ≠ "__name__" := by decide) (hdT : (x == ("__debug__" : Str)) = false := by decide) (hst : starEach [e] X.env = (false, eval e X.env) :: starEach [] X.env := by rfl) (hpl : (backTo cpos (starEach [] X.env)).any (·.1) = false := by rfl) :
    VT X P (.Compare (.Call (.Name "type" p1) [e] [] cpos) [.Eq] [.Name x p2] pos) (fBool (eTyp false T fa)) :=
  PT.weak (pt_cmpR op_tyEq (pe_typ hg hm he hst hpl) (pe_bltn (v := .ty T) hgT hmT hbT rfl hnT hdT) (nomark _)) fun σ H Q h => by
    obtain ⟨Bf, ow, en, k, d, en', h1, q⟩ := tv_typ (X := X) hT σ H _ (tvT_bool σ H Q h)
    exact ⟨Bf, ow, en, k, d, en', h1, fun v ow1 H1 k1 r1 p1 => by
      obtain ⟨a, g1, g2, g3⟩ := q v ow1 H1 k1 r1 p1
      exact ⟨v, a, rfl, g1, _, _, rfl, rfl, g2, hT, g3⟩⟩
theorem ve_typNe {T : String} {x : Str} {p1 p2 cpos : Pos} (hT : T ∈ tyNames) (hu : X.A.units + 64 < cLine) (hg : Gl X "type") (hm : X.mg "type" = none) (hgT : Gl X x) (hmT : X.mg x = none) (hbT : bootBuiltins x = some (.type T)) (he : VE X P e fa)
    (hnT : x ≠ "__name__" := by decide) (hdT : (x == ("__debug__" : Str)) = false := by decide) (hst : starEach [e] X.env = (false, eval e X.env) :: starEach [] X.env := by rfl) (hpl : (backTo cpos (starEach [] X.env)).any (·.1) = false := by rfl) :
    VE X P (.Compare (.Call (.Name "type" p1) [e] [] cpos) [.NotEq] [.Name x p2] pos) (eTyp true T fa) :=
  PE.weak (pe_cmpR (op_tyNe hu) (pe_typ hg hm he hst hpl) (pe_bltn (v := .ty T) hgT hmT hbT rfl hnT hdT) (nomark _)) fun σ H Q h => by
    obtain ⟨Bf, ow, en, k, d, en', h1, q⟩ := tv_typ (X := X) hT σ H Q h
    exact ⟨Bf, ow, en, k, d, en', h1, fun v ow1 H1 k1 r1 p1 => by
      obtain ⟨a, g1, g2, g3⟩ := q v ow1 H1 k1 r1 p1
      exact ⟨v, a, rfl, g1, _, _, rfl, rfl, g2, hT, g3⟩⟩
end

/-! ### sorted, of any data that are alike -/
/-- the order of data -/
def leD (x y : D) : Bool := PySem.W.dataLe false (fun d : D => d) x y
def sortD (ds : List D) : List D := ds.mergeSort leD
def geD (x y : D) : Bool := PySem.W.dataLe true (fun d : D => d) x y
def sortDR (ds : List D) : List D := ds.mergeSort geD
def headT : D → Bool
  | .tuple (_ :: _) => true
  | _ => false
def notT : D → Bool
  | .none => false
  | .tuple _ => false
  | .list _ => false
  | .dict _ => false
  | _ => true
def goodS (ds : List D) : Bool := decide (ds.length ≤ sizeLine) && (ds.all fun d => ds.all fun e => PySem.W.alike d e) && (ds.all headT || ds.all notT) && ds.all fun d => decide (d.depth ≤ 16)
theorem goodS_of {ds : List D} (h : goodS ds = true) : ds.length ≤ sizeLine ∧ PySem.W.AllAlike ds ∧ PySem.W.Sortable ds ∧ ∀ d ∈ ds, d.depth ≤ 16 := by
  unfold goodS at h
  simp only [Bool.and_eq_true, Bool.or_eq_true, decide_eq_true_eq, List.all_eq_true] at h
  obtain ⟨⟨⟨h1, h2⟩, h3⟩, h4⟩ := h
  refine ⟨h1, fun d hd d' hd' => h2 d hd d' hd', ?_, h4⟩
  rcases h3 with h3 | h3
  · refine .inl fun d hd => ?_
    have := h3 d hd
    unfold headT at this
    split at this
    · exact ⟨_, _, rfl⟩
    · cases this
  · refine .inr fun d hd => ?_
    have := h3 d hd
    refine ⟨fun z => ?_, fun xs z => ?_⟩ <;> (subst z; cases this)
/-- values that stand for data -/
def RvD (H : Hp) (B : Addr → Prop) (u : Value) (d : D) : Prop := ∃ x : V, RelV x u ∧ Rp H B d x
theorem each_in {H : Hp} {B : Addr → Prop} : ∀ {ds : List D} {xs : List V} {us : List Value}, RpL H B ds xs → Vals xs us → PySem.W.EachIs (RvD H B) us ds
  | [], _, _, .nil, .nil => .nil
  | _ :: _, _, _, .cons r rs, .cons h t => .cons ⟨_, h, r⟩ (each_in rs t)
theorem each_out {H : Hp} {B : Addr → Prop} : ∀ {ds : List D} {us : List Value}, PySem.W.EachIs (RvD H B) us ds → ∃ xs, RpL H B ds xs ∧ Vals xs us
  | [], _, .nil => ⟨[], .nil, .nil⟩
  | _ :: _, _, .cons ⟨x, h, r⟩ t => by
    obtain ⟨xs, h1, h2⟩ := each_out t
    exact ⟨x :: xs, .cons r h1, .cons h h2⟩
theorem each_reads {X : Cx} {pins : List (Addr × Obj)} {σ : L2.St} {H : Hp} {s : Shared} {B : Addr → Prop} (I : Inv X pins σ H s) : ∀ {ds : List D} {us : List Value}, PySem.W.EachIs (RvD H B) us ds → PySem.W.EachIs (fun v b => ∃ as, Reads s.heap v ((fun d : D => d) b) as) us ds
  | [], _, .nil => .nil
  | _ :: _, _, .cons ⟨x, h, r⟩ t => .cons (Dp.reads I _ x _ r.dp h) (each_reads I t)
def rSortedD : List V → Hp → L2.VK → Prop := fun vs H Q => ∃ B ds, RpL H B [.list ds] vs ∧ goodS ds = true ∧ ∀ p xs, H p = none → RpL H B (sortD ds) xs → Q (.ref p) (upd H p (.lst xs))
theorem cr_sortedD {X : Cx} (hu : X.A.units + 64 < cLine) : CallR X (.builtin "sorted") rSortedD := by
  intro pins s σ H vs us Q I r h
  obtain ⟨B, ds, rp, hg, q⟩ := h
  obtain ⟨hl, hal, hk, hd⟩ := goodS_of hg
  cases rp with
  | cons p rp =>
    cases rp
    cases p with
    | lst nb rd rs =>
      rename_i a xs
      obtain ⟨its, rv, pl, hz⟩ := I.list (.inl rd)
      rw [Vals.ref1 r]
      have e := each_in rs rv
      refine PySem.W.sorted_data (R := RvD H B) (enc := fun d : D => d) (bs := ds) pl.isList e (each_reads I e) (by rw [List.map_id']; exact hal) (by rw [List.map_id']; exact hk) hl (fun b hb => by have := hd b hb; show X.A.units + 2 + b.depth < cLine; omega) fun out ho hout => ?_
      obtain ⟨ys, h1, h2⟩ := each_out hout
      obtain ⟨ep, he'⟩ := PyProof.Rows.sortedAll_at s.heap its out.toArray
      have hlen : ys.length ≤ sizeLine := by
        rw [h2.length, ho]
        exact hl
      exact ⟨.ref _, upd H (s.heap.objs.size + 1) (.lst ys), I.laid (t' := s.toks) (fun _ _ => PyProof.Rows.sortedAll_old) (Nat.le_succ _) ⟨hlen, out, ep, h2, he'⟩, rfl, q _ _ (I.hok.fresh (Nat.le_succ _)) h1⟩
/-- sorted: ints and pairs by their own sorts, all else by the order of data -/
def gSortA : List D → Option (List D)
  | [.list ds] => match gSorted [.list ds] with
    | some r => some r
    | none => if goodS ds = true then some (sortD ds) else none
  | _ => none
theorem ca_sortA {K : PySem.W.Frag} : CaL (fun vs H Q => rSortedAll K vs H Q ∨ rSortedD vs H Q) gSortA := by
  intro H B ds es vs Q e r q
  unfold gSortA at e
  split at e <;> first | cases e | skip
  rename_i xs
  split at e
  · rename_i r' h
    cases e
    exact .inl (ca_sorted H B _ _ vs Q h r q)
  · split at e <;> first | cases e | skip
    rename_i hg
    exact .inr ⟨B, xs, r, hg, q⟩
theorem cr_sortA {X : Cx} (hu : X.A.units + 64 < cLine) : CallR X (.builtin "sorted") (fun vs H Q => rSortedAll X.K vs H Q ∨ rSortedD vs H Q) := by
  intro pins s σ H xs us Q I r h
  rcases h with h | h
  · exact cr_sortedAll pins s σ H xs us Q I r h
  · exact cr_sortedD hu pins s σ H xs us Q I r h

/-! ### sorted(d): the keys of a dict, numbers -/
theorem ints_keys : ∀ {us : List Value} {ns : List Int}, us.length = ns.length → (∀ (j : Nat) (v : Value), us[j]? = some v → ∃ (x : Int) (t : Tok), ns[j]? = some x ∧ v = Value.int x t) → IntsAre us ns
  | [], [], _, _ => .nil
  | u :: us, k :: ks, hl, h => by
    obtain ⟨x, t, e1, e2⟩ := h 0 u rfl
    have e1' : k = x := Option.some.inj e1
    subst e1'
    subst e2
    exact .cons _ _ (ints_keys (by simpa using hl) fun j v e => by
      obtain ⟨x, t, a, b⟩ := h (j + 1) v (by simpa using e)
      exact ⟨x, t, by simpa using a, b⟩)
  | [], _ :: _, hl, _ => by simp at hl
  | _ :: _, [], hl, _ => by simp at hl
def rSortedDK : List V → Hp → L2.VK → Prop := fun xs H Q => ∃ (a : Addr) (kvs : List (Key × V)) (ns : List Int), xs = [.ref a] ∧ H a = some (.dK kvs) ∧ kvs.map (·.1) = ns.map Sum.inl ∧ ∀ p, H p = none → Q (.ref p) (upd H p (.lst ((sortI ns).map V.int)))
theorem cr_sortedDK {X : Cx} (hcalm : X.calm = true) : CallR X (.builtin "sorted") rSortedDK := by
  intro pins s σ H xs us Q I r q
  obtain ⟨a, kvs, ns, ex, hd, hks, q⟩ := q
  subst ex
  obtain ⟨u, eu, rx⟩ := vals1 r
  subst eu
  cases rx
  obtain ⟨z, lo, vs, rel, dd⟩ := dk_rd I.hok (.inl hd)
  obtain ⟨ep, hat⟩ := dd.dictAt
  have hkeys : vs.map (·.1) = ns.map Sum.inl := rel.keys.symm.trans hks
  have hl : vs.length = ns.length := by
    have e := congrArg List.length hkeys
    rw [List.length_map, List.length_map] at e
    exact e
  have h16 : vs.length ≤ sizeLine := by rw [← rel.length]; exact z
  refine Calls.call_function_entry PyProof.Rows.kind_sorted PyProof.Rows.plain_sorted PyProof.Rows.entry_sorted (PyProof.Rows.args_sorted1 _) ?_
  unfold Builtin.«sorted»
  refine wpAny_bind (m := checkCount "sorted" 1 1 _) (wpAny_pure ?_)
  refine wpAny_bind (PySem.W.kdu_collect (A := X.A.in1) (PySem.W.kdl_dict (knd := mixKind X.prog X.w) (kvs := vs) (ep := ep) lo) (I.ok.hd hcalm) hat h16 fun h' tk acc hk hacc => ?_)
  have hal : acc.toList.length = ns.length := by rw [Array.length_toList, hacc.1, hl]
  have hS : IntsAre acc.toList ns := ints_keys hal fun j v e => by
    obtain ⟨k, x, e1, e2⟩ := hacc.2 j v (by rw [← Array.getElem?_toList]; exact e)
    have e3 : (vs.map (·.1))[j]? = some k := by rw [List.getElem?_map, e1]; all_goals rfl
    rw [hkeys, List.getElem?_map] at e3
    cases e4 : ns[j]? with
    | none => rw [e4] at e3; cases e3
    | some y =>
      rw [e4] at e3
      have e5 : Sum.inl y = k := Option.some.inj e3
      subst e5
      have e6 : keyIs (Sum.inl y) v = true := e2
      rcases keyIs_shape e6 with ⟨i, t, ek, ev⟩ | ⟨z, t, ek, ev⟩
      · cases ek
        exact ⟨_, t, rfl, ev⟩
      · cases ek
  have I1 : Inv X pins σ H { s with heap := h', toks := tk } := I.kept hk
  refine wpAny_bind (wpAny_newList ?_ (by rw [hal, ← hl]; exact h16))
  have hoL : (h'.push (seqObj "list" acc.toList.toArray 0)).get? h'.objs.size = some (seqObj "list" acc.toList.toArray 0) := Heap.get?_push_size _ rfl
  show wpAny _ _ _ _ _ { s with heap := h'.push (seqObj "list" acc.toList.toArray 0), toks := tk }
  refine wpAny_bind (wpAny_holding (wpAny_call_entry PyProof.Rows.slot_list_sort ⟨_, hoL, rfl⟩ PyProof.Rows.entry_list_sort
    (SrtO.list_sort_ord SrtO.swo_int (s := { s with heap := h'.push (seqObj "list" acc.toList.toArray 0), toks := tk }) hoL (by rw [hal, ← hl]; exact h16) (fun h2 => SrtO.ints_sortable hS h2) fun out h1 h2 => ⟨_, rfl, ?_⟩)
    (PyProof.Rows.args_list_sort _)))
  obtain ⟨k1, k2, k3⟩ := SrtO.ints_out hS h1 h2
  have := sortI_eq k2 k3
  obtain ⟨e', he'⟩ := PyProof.Rows.sortedHeap_at (vs := acc.toList) (out := out.toArray) hoL
  have hlen : ((sortI ns).map V.int).length ≤ sizeLine := by
    rw [List.length_map, (sortI_perm ns).length_eq, ← hl]
    exact h16
  rw [this] at k1
  refine wpAny_pure ⟨_, rfl, .ref h'.objs.size, upd H h'.objs.size (.lst ((sortI ns).map V.int)), I1.laid (t' := tk) (fun b u e => ?_) (Nat.le_refl _)
    (show ObjOk X.prog X.w _ _ _ (.lst ((sortI ns).map V.int)) from ⟨hlen, out, e', vals_of_ints k1, he'⟩), rfl, q _ (I1.hok.fresh (Nat.le_refl _))⟩
  have hb : b < h'.objs.size := Heap.lt_size e
  rw [PyProof.Rows.sortedHeap_old (Nat.ne_of_lt hb) (by rw [size_push']; exact Nat.lt_succ_of_lt hb)]
  exact Heap.get?_push_of_some _ e
def intKeys : DKV → Option (List Int)
  | [] => some []
  | ([.inl n], _) :: r => (intKeys r).map (n :: ·)
  | _ => none
def lSortedDK (i : Nat) : FL := fun en => match en[i]? with
  | some (.dc ⟨false, false⟩ kvs) => match intKeys kvs with
    | some ns => some ((sortI ns).map .int, en)
    | none => none
  | _ => none
theorem intKeys_of {H : Hp} {B : Addr → Prop} : ∀ {kvs : DKV} {ks : List (Key × V)} {ns : List Int}, Paired (fun (p : List Key × D) (q : Key × V) => p.1 = [q.1] ∧ Rp H B p.2 q.2) kvs ks → intKeys kvs = some ns → ks.map (·.1) = ns.map Sum.inl
  | _, _, _, .nil, e => by cases e; rfl
  | _, _, ns, .cons (a := p) (b := q) r rs, e => by
    obtain ⟨p1, p2⟩ := p
    have e1 : p1 = [q.1] := r.1
    subst e1
    cases hq : q.1 with
    | inr y => rw [hq] at e; simp [intKeys] at e
    | inl n =>
      rw [hq] at e
      simp only [intKeys] at e
      cases h2 : intKeys _ with
      | none => rw [h2] at e; cases e
      | some ms =>
        rw [h2] at e
        cases e
        rw [List.map_cons, List.map_cons, hq, intKeys_of rs h2]
section
variable {X : Cx} {P : Pl}
theorem vf_sortedDK {i : Nat} {x : Str} {p p' pos : Pos} (hc : X.calm = true) (hN : X.N[i]? = some x) (hv : Vis X.env.scope x := by first | exact .inl rfl | exact .inr (.inl rfl) | exact .inr (.inr rfl)) (hg : Gl X "sorted") (hm : X.mg "sorted" = none)
    (hd : (x == ("__debug__" : Str)) = false := by decide) (hcd : (x == ("__classdict__" : Str)) = false := by decide)
    (hst : starEach [.Name x p'] X.env = (false, eval (.Name x p') X.env) :: starEach [] X.env := by rfl) (hpl : (backTo pos (starEach [] X.env)).any (·.1) = false := by rfl) : VF X P (.Call (.Name "sorted" p) [.Name x p'] [] pos) (lSortedDK i) :=
  PE.weak (pe_callB (cr_sortedDK hc) hg hm (by decide +kernel) (pa_cons (pe_var hN hv hd hcd) pa_nil hst) (by decide) (by decide) hst hpl) fun σ H Q h => by
    obtain ⟨Bf, ow, en, k, d, en', hf, q⟩ := h
    unfold lSortedDK at hf
    split at hf <;> first | cases hf | skip
    rename_i kvs e0
    split at hf <;> first | cases hf | skip
    rename_i ns e1
    obtain ⟨a, g1, g2, g3⟩ := k.hdc i _ kvs e0
    obtain ⟨ks, g4, g5⟩ := g3
    exact ⟨_, g2, a, ks, ns, rfl, g4, intKeys_of g5 e1, fun p hp => fresh_of (f := Q) k .refl hp (RpL.ofInts _) q⟩
end
end VL

namespace VL
open PySem PySem.Spec
open PyProof.Rows L2

theorem room65 {k : Nat} {A : Around} (r : Room k A) : A.units + 65 < cLine := by
  have := r.un
  omega
/-! ### x in l, of any data -/
def gInL (neg : Bool) : D → D → Option D
  | d, .list ds => if SeqAt.shaped d = true ∧ SeqAt.shaped (.list ds) = true then some (.bool (if neg then !(ds.any fun z => PyData.eqv z d) else ds.any fun z => PyData.eqv z d)) else none
  | _, _ => none
theorem ov_inL {K : PySem.W.Frag} : OpV (rInD K) (gInL false) := by
  intro H B d1 d2 d v1 v2 Q e p1 p2 nb q
  unfold gInL at e
  split at e <;> first | cases e | skip
  split at e <;> first | cases e | skip
  rename_i h
  exact ⟨_, _, p1.dp, p2.dp, h.1, h.2, q _ H .refl (.bl _)⟩
theorem ov_notInL {K : PySem.W.Frag} : OpV (rNotInD K) (gInL true) := by
  intro H B d1 d2 d v1 v2 Q e p1 p2 nb q
  unfold gInL at e
  split at e <;> first | cases e | skip
  split at e <;> first | cases e | skip
  rename_i h
  exact ⟨_, _, p1.dp, p2.dp, h.1, h.2, q _ H .refl (.bl _)⟩

/-! ### a dict is walked by its keys -/
def iKeysD (i : Nat) : FL := fun en => match en[i]? with
  | some (.dc ⟨t, true⟩ kvs) => some (kvs.map fun p => kToD t p.1, en)
  | _ => none
theorem pr_get {α β : Type} {F : α → β → Prop} : ∀ {l₁ : List α} {l₂ : List β} {i : Nat} {a : α}, Paired F l₁ l₂ → l₁[i]? = some a → ∃ b, l₂[i]? = some b ∧ F a b
  | _, _, _, _, .nil, e => by simp at e
  | _, _, 0, _, .cons h _, e => by simp at e; subst e; exact ⟨_, rfl, h⟩
  | _, _, i + 1, _, .cons _ t, e => by
    obtain ⟨b, h1, h2⟩ := pr_get (i := i) t (by simpa using e)
    exact ⟨b, by simpa using h1, h2⟩
theorem rp_kD {H : Hp} {B : Addr → Prop} (k : Key) : Rp H B (kD k) (kV k) := by
  cases k with
  | inl n => exact .int n
  | inr x => exact .str x
theorem rpl_kD {H : Hp} {B : Addr → Prop} : ∀ ks : List Key, RpL H B (ks.map kD) (ks.map kV)
  | [] => .nil
  | k :: ks => .cons (rp_kD k) (rpl_kD ks)
section
variable {X : Cx} {P : Pl} {tg e : Expr} {pos : Pos}
theorem vi_keysD {i : Nat} {x : Str} (hN : X.N[i]? = some x) (hv : Vis X.env.scope x := by first | exact .inl rfl | exact .inr (.inl rfl) | exact .inr (.inr rfl))
    (hd : (x == ("__debug__" : Str)) = false := by decide) (hcd : (x == ("__classdict__" : Str)) = false := by decide) : VI X P tg (.Name x pos) (iKeysD i) :=
  PI.weak (pi_keys (pe_var hN hv hd hcd)) fun σ H R h => by
    obtain ⟨Bf, ow, en, k, ds, en', hf, q⟩ := h
    unfold iKeysD at hf
    split at hf <;> first | cases hf | skip
    rename_i t kvs e0
    obtain ⟨a, g1, g2, g3⟩ := k.hdc i _ kvs e0
    refine ⟨_, g2, ?_⟩
    cases t with
    | false =>
      obtain ⟨ks, ⟨od, h1⟩, h2⟩ := g3
      refine ⟨a, od, rfl, .inl ⟨ks, h1, q _ ow H k .refl fun B' H2 j mv nb hz ht => ⟨fun d e => ?_, fun e => ?_⟩⟩⟩
      · rw [List.getElem?_map] at e
        cases ep : kvs[j]? with
        | none => rw [ep] at e; cases e
        | some p =>
          rw [ep] at e
          cases e
          obtain ⟨kv, e1, e2, _⟩ := pr_get h2 ep
          refine ⟨⟨hz _ _ _ h1, (List.getElem?_eq_some_iff.mp e1).1⟩, fun y H' yd => ?_⟩
          obtain ⟨rfl, k0, v0, e3, rfl⟩ := yd
          rw [e1] at e3
          cases e3
          show Ext _ _ ∧ Rp _ _ (kToD false p.1) _
          rw [e2]
          exact ⟨.refl, rp_kD k0⟩
      · rw [List.length_map] at e
        exact ⟨hz _ _ _ h1, by rw [← Paired.len h2, e]; exact Nat.le_refl _⟩
    | true =>
      obtain ⟨ks, ⟨od, h1⟩, h2⟩ := g3
      refine ⟨a, od, rfl, .inr ⟨ks, h1, q _ ow H k .refl fun B' H2 j mv nb hz ht => ⟨fun d e => ?_, fun e => ?_⟩⟩⟩
      · rw [List.getElem?_map] at e
        cases ep : kvs[j]? with
        | none => rw [ep] at e; cases e
        | some p =>
          rw [ep] at e
          cases e
          obtain ⟨kv, e1, e2, _⟩ := pr_get h2 ep
          refine ⟨⟨hz _ _ _ h1, (List.getElem?_eq_some_iff.mp e1).1⟩, fun y H' yd => ?_⟩
          obtain ⟨rfl, k0, v0, q0, e3, rfl, e4⟩ := yd
          rw [e1] at e3
          cases e3
          show Ext _ _ ∧ Rp _ _ (kToD true p.1) _
          rw [e2]
          exact ⟨.refl, .tup (ht _ _ e4) e4 (rpl_kD k0)⟩
      · rw [List.length_map] at e
        exact ⟨hz _ _ _ h1, by rw [← Paired.len h2, e]; exact Nat.le_refl _⟩
/-- .. while it is locked -/
def lLockD (i : Nat) (f : FL) : FL := fun en => match en[i]? with
  | some (.dc ⟨t, false⟩ kvs) => match f (en.set i (.dc ⟨t, true⟩ kvs)) with
    | some (ds, en1) => match en1[i]? with
      | some (.dc ⟨t', true⟩ kvs') => some (ds, en1.set i (.dc ⟨t', false⟩ kvs'))
      | _ => none
    | none => none
  | _ => none
theorem lock_obj {H : Hp} {B : Addr → Prop} {a : Addr} {t : Bool} {kvs : DKV} (d : DcAt H B a ⟨t, false⟩ kvs) : ∃ u, H a = some u ∧ Mut (some u) ∧ NT u ∧ (∀ xs, u ≠ .tup xs) ∧ (∀ o v, u ≠ .frz o v) ∧ ∀ (H' : Hp) (B' : Addr → Prop) (od : Obj), (∀ b o, H b = some o → NT o → ¬ B b → H' b = some o ∧ ¬ B' b) → H' a = some (.frz od u) → DcAt H' B' a ⟨t, true⟩ kvs := by
  cases t with
  | false =>
    obtain ⟨ks, h1, h2⟩ := d
    exact ⟨_, h1, trivial, (fun _ z => nomatch z), (fun _ z => nomatch z), (fun _ _ z => nomatch z), fun H' B' od mv e => ⟨ks, ⟨od, e⟩, Paired.mapP h2 fun p q z => ⟨z.1, z.2.move mv⟩⟩⟩
  | true =>
    obtain ⟨ks, h1, h2⟩ := d
    exact ⟨_, h1, trivial, (fun _ z => nomatch z), (fun _ z => nomatch z), (fun _ _ z => nomatch z), fun H' B' od mv e => ⟨ks, ⟨od, e⟩, Paired.mapP h2 fun p q z => ⟨z.1, z.2.move mv⟩⟩⟩
theorem unlock_obj {H : Hp} {B : Addr → Prop} {a : Addr} {t : Bool} {kvs : DKV} {od : Obj} {u : HO} (d : DcAt H B a ⟨t, true⟩ kvs) (e : H a = some (.frz od u)) (H' : Hp) (B' : Addr → Prop) (mv : ∀ b o, H b = some o → NT o → ¬ B b → H' b = some o ∧ ¬ B' b) (e' : H' a = some u) : DcAt H' B' a ⟨t, false⟩ kvs := by
  cases t with
  | false =>
    obtain ⟨ks, ⟨od', h1⟩, h2⟩ := d
    rw [e] at h1
    cases h1
    exact ⟨ks, e', Paired.mapP h2 fun p q z => ⟨z.1, z.2.move mv⟩⟩
  | true =>
    obtain ⟨ks, ⟨od', h1⟩, h2⟩ := d
    rw [e] at h1
    cases h1
    exact ⟨ks, e', Paired.mapP h2 fun p q z => ⟨z.1, z.2.move mv⟩⟩
theorem vf_lockD {i : Nat} {f : FL} (h : VF X P e f) : VF X P e (lLockD i f) := PE.weak (pe_lock h) fun σ H Q h => by
  obtain ⟨Bf, ow, en, k, ds, en', hf, q⟩ := h
  unfold lLockD at hf
  split at hf <;> first | cases hf | skip
  rename_i t kvs e0
  split at hf <;> first | cases hf | skip
  rename_i ds1 en1 h1
  split at hf <;> first | cases hf | skip
  rename_i t' kvs' e1
  obtain ⟨a, g1, g2, g3⟩ := k.hdc i _ kvs e0
  obtain ⟨u, hu, mu, ntu, ntt, nf, lk⟩ := lock_obj g3
  refine ⟨a, u, hu, mu, fun od => ?_⟩
  have mv : ∀ b o, H b = some o → NT o → ¬ blk Bf ow b → upd H a (.frz od u) b = some o ∧ ¬ blk Bf ow b := fun b o h t n => ⟨by rw [upd_ne fun z => n (by rw [z]; exact .inr ⟨i, g1⟩)]; exact h, n⟩
  have hz : ∀ o v, H a ≠ some (.frz o v) := fun o v z => by
    rw [hu] at z
    exact nf o v (Option.some.inj z)
  obtain ⟨k1, r1⟩ := k.wrO (sl := .dc ⟨t, true⟩ kvs) (o' := .frz od u) g1 hz rfl (fun _ z => nomatch z) (lk _ _ od mv upd_same)
  refine ⟨Bf, ow, _, k1, ds, en1, h1, fun p xs ow' H' k' r' b1 b2 b3 b4 hp rs => ?_⟩
  have ha' : H' a = some (.frz od u) := r'.hfrz a od u upd_same
  refine ⟨ha', ?_⟩
  obtain ⟨a', w1, w2, w3⟩ := k'.hdc i _ kvs' e1
  have := r'.hsub i a' w1
  rw [g1] at this
  cases this
  have pa : p ≠ a := fun z => b3 i (by rw [z]; exact w1)
  have mv' : ∀ b o, H' b = some o → NT o → ¬ blk (insB Bf p) ow' b → upd H' a u b = some o ∧ ¬ blk (insB Bf p) ow' b := fun b o h t n => ⟨by rw [upd_ne fun z => n (by rw [z]; exact .inr ⟨i, w1⟩)]; exact h, n⟩
  obtain ⟨k2, _⟩ := k'.wrOk (sl := .dc ⟨t', false⟩ kvs') (o' := u) w1 rfl ntu (unlock_obj w3 ha' _ _ mv' upd_same)
  have at1 : ∀ b, b ≠ a → H b = upd H a (.frz od u) b := fun b hb => by rw [upd_ne hb]
  refine q p xs ow' (upd H' a u) k2 ⟨fun b o e t n => ?_, fun b e => ?_, r'.hpin, r'.hsub, fun b o v e => ?_, fun b e => ?_⟩ b1 b2 b3 ?_ (by rw [upd_ne pa]; exact hp) (rs.move mv')
  · have hb : b ≠ a := fun z => n i (by rw [z]; exact g1)
    obtain ⟨h3, h4⟩ := r'.hkeep b o (by rw [← at1 b hb]; exact e) t n
    exact ⟨by rw [upd_ne hb]; exact h3, h4⟩
  · by_cases hb : b = a
    · rw [hb, upd_same]
      exact fun z => nomatch z
    · rw [upd_ne hb]
      exact r'.hsome b (by rw [← at1 b hb]; exact e)
  · have hb : b ≠ a := fun z => hz o v (by rw [← z]; exact e)
    rw [upd_ne hb]
    exact r'.hfrz b o v (by rw [← at1 b hb]; exact e)
  · by_cases hb : b = a
    · rw [hb]
      exact ⟨u, upd_same, ntt⟩
    · obtain ⟨o, h3, h4⟩ := r'.hnt b (by obtain ⟨o, h3, h4⟩ := e; exact ⟨o, by rw [← at1 b hb]; exact h3, h4⟩)
      exact ⟨o, by rw [upd_ne hb]; exact h3, h4⟩
  · cases z : H p with
    | none => rfl
    | some o =>
      rw [upd_ne pa, z] at b4
      cases b4
end
end VL

namespace VL
open PySem PySem.Spec
open PyProof.Rows L2
section
variable {X : Cx} {P : Pl}
/-- a, b = x, y with plain local names -/
def tPar2 (i j : Nat) (ta : TA) : TS := fun D σ H => ta σ H fun vs H1 => ∃ u v, vs = [u, v] ∧ D.nx ((σ.set i (some u)).set j (some v)) H1
theorem ps_par2 {i j : Nat} {x y : Str} {a b : Expr} {ta : TA} {px py pt pos : Pos} {kt k2 pt2} (hc : X.calm = true) (hN : X.N.Nodup) (hi : X.N[i]? = some x) (hj : X.N[j]? = some y) (hij : i ≠ j)
    (hx : X.env.scope.names.lookup x = some .local) (hy : X.env.scope.names.lookup y = some .local) (ha : PA X [a, b] ta)
    (hw : swappedStores [.Tuple [.Name x px, .Name y py] kt pt] (.Tuple [a, b] k2 pt2) X.env = pure (some [x, y]))
    (hs : swapsWithSole [.Tuple [.Name x px, .Name y py] kt pt] (.Tuple [a, b] k2 pt2) pos.line X.env = pure false := by rfl) :
    PS X (.Assign [.Tuple [.Name x px, .Name y py] kt pt] (.Tuple [a, b] k2 pt2) pos) (tPar2 i j ta) := by
  refine ⟨fun pins s σ H D I h => ?_⟩
  rw [exec_Assign_arm]
  refine wpAny_bind (wpAny_standAt ?_)
  rw [hs]
  refine wpAny_bind (wpAny_pure ?_)
  rw [if_neg (by decide)]
  refine wpAny_bind (Tuple_ (thn (ha.run _ pins s σ H _ I h) fun us s1 ⟨vs, H1, I1, r1, q1⟩ => ?_))
  obtain ⟨v1, v2, e1, q1⟩ := q1
  subst e1
  obtain ⟨u1, u2, rfl, r1', r2'⟩ : ∃ u1 u2, us = [u1, u2] ∧ RelV v1 u1 ∧ RelV v2 u2 := by
    cases r1 with
    | cons p q =>
      cases q with
      | cons p' q' =>
        cases q'
        exact ⟨_, _, rfl, p, p'⟩
  refine wpAny_newObj_type ?_ (by show 2 ≤ sizeLine; decide)
  have I2 : Inv X pins σ H1 { s1 with heap := s1.heap.push { cls := .type "tuple", data := .seq [u1, u2].toArray } } := I1.kept (t' := s1.toks) fun b o e => Heap.get?_push_of_some _ e
  rw [hw]
  refine wpAny_bind (wpAny_pure ?_)
  show wpAny (model X.prog X.w) X.A (do rule "assign.swapped-stores"; let items ← unpackItems (.ref s1.heap.objs.size) 2 none; assignInOrder [fun v => bindName X.env y v, fun v => bindName X.env x v] items.reverse; pure Flow.next) _ _ _
  refine wpAny_bind (wpAny_rule (wpAny_bind (unpackItems_tuple (items := #[u1, u2]) (I.ok.hd hc) (IsTup.new s1.heap _) fun h' hx' => ?_)))
  have I3 := I2.kept (h' := h') (t' := s1.toks) fun b o e => hx' b o (Nat.ne_of_lt (Heap.lt_size e)) e
  show wpAny _ _ (assignInOrder [fun v => bindName X.env y v, fun v => bindName X.env x v] [u2, u1] >>= fun _ => pure Flow.next) _ _ _
  refine wpAny_bind (assignInOrder_cons (wpAny_bindName (store_ok I3 hN hj (.inl hy) r2' (fun s3 I5 => ?_) (.inr hy))))
  refine assignInOrder_cons (wpAny_bindName (store_ok I5 hN hi (.inl hx) r1' (fun s4 I6 => assignInOrder_nil (wpAny_pure ?_)) (.inr hx)))
  rw [List.set_comm _ _ (Ne.symm hij)] at I6
  exact ⟨_, H1, I6, q1⟩
def sPar2 (i j : Nat) (f : FA) : FS := fun en => match f en with
  | some ([d1, d2], en1) => some (.nx ((en1.set i (.va d1)).set j (.va d2)))
  | _ => none
theorem vs_par2 {i j : Nat} {x y : Str} {a b : Expr} {ga : FA} {px py pt pos : Pos} {kt k2 pt2} (hc : X.calm = true) (hN : X.N.Nodup) (hi : X.N[i]? = some x) (hj : X.N[j]? = some y) (hij : i ≠ j) (hPi : i ∉ P) (hPj : j ∉ P) (ha : VA X P [a, b] ga)
    (hx : X.env.scope.names.lookup x = some .local := by rfl) (hy : X.env.scope.names.lookup y = some .local := by rfl)
    (hw : swappedStores [.Tuple [.Name x px, .Name y py] kt pt] (.Tuple [a, b] k2 pt2) X.env = pure (some [x, y]) := by rfl)
    (hs : swapsWithSole [.Tuple [.Name x px, .Name y py] kt pt] (.Tuple [a, b] k2 pt2) pos.line X.env = pure false := by rfl) :
    VS X P (.Assign [.Tuple [.Name x px, .Name y py] kt pt] (.Tuple [a, b] k2 pt2) pos) (sPar2 i j ga) :=
  PS.weak (ps_par2 hc hN hi hj hij hx hy ha hw hs) fun Dn σ H h => by
    obtain ⟨Bf, ow, en, k, o, hf, q⟩ := h
    unfold sPar2 at hf
    split at hf <;> first | cases hf | skip
    rename_i d1 d2 en1 h1
    refine ⟨Bf, ow, en, k, _, en1, h1, fun vs ow1 H1 k1 r1 p1 => ?_⟩
    cases p1 with
    | cons p p1 =>
      cases p1 with
      | cons p2 p1 =>
        cases p1
        refine ⟨_, _, rfl, ?_⟩
        have m1 : ∀ b o, H1 b = some o → NT o → ¬ blk Bf ow1 b → H1 b = some o ∧ ¬ blk Bf (dropOw ow1 i) b := fun b o e t n => ⟨e, fun z => n (dropOw_blk z)⟩
        have m2 : ∀ b o, H1 b = some o → NT o → ¬ blk Bf (dropOw ow1 i) b → H1 b = some o ∧ ¬ blk Bf (dropOw (dropOw ow1 i) j) b := fun b o e t n => ⟨e, fun z => n (dropOw_blk z)⟩
        have k2 := k1.set hPi (p.move m1)
        have k3 := k2.set hPj ((p2.move m1).move m2)
        exact q _ _ _ k3 (r1.trans ((dropOw_rel hPi).trans (dropOw_rel hPj))).s
end
end VL

namespace VL
open PySem PySem.Spec
open PyProof.Rows L2
section
variable {X : Cx} {P : Pl}
/-! ### x = y = e -/
def sAsg2 (f : FE) (g1 g2 : FG) : FS := fun en => match f en with
  | some (d, en1) => match g1 d en1 with
    | some en2 => match g2 d en2 with
      | some en3 => some (.nx en3)
      | none => none
    | none => none
  | none => none
theorem vs_asg2 {t1 t2 e : Expr} {pos : Pos} {f : FE} {g1 g2 : FG} {v1 v2 : List Nat} (he : VE X P e f) (h1 : VG X P t1 v1 g1) (h2 : VG X P t2 v2 g2)
    (ha : (assignEach [t1, t2] X.env).map (·.2) = [assign t1 X.env, assign t2 X.env] := by rfl) (hw : swappedStores [t1, t2] e X.env = pure none := by rfl) :
    VS X P (.Assign [t1, t2] e pos) (sAsg2 f g1 g2) := PS.weak (ps_asg2 he h1 h2 ha hw) fun Dn σ H h => by
  obtain ⟨Bf, ow, en, k, o, hf, q⟩ := h
  unfold sAsg2 at hf
  split at hf <;> first | cases hf | skip
  rename_i d en1 e1
  split at hf <;> first | cases hf | skip
  rename_i en2 e2
  split at hf <;> first | cases hf | skip
  rename_i en3 e3
  exact ⟨Bf, ow, en, k, _, _, e1, fun v ow1 H1 k1 r1 p1 => ⟨Bf, ow1, en1, d, k1, p1, en2, e2, fun ow2 σ2 k2 r2 _ => ⟨Bf, ow2, en2, d, k2, r2.rp p1, en3, e3, fun ow3 σ3 k3 r3 _ => q _ _ _ k3 ((r1.trans r2).trans r3).s⟩⟩⟩
def sAsg3 (f : FE) (g1 g2 g3 : FG) : FS := fun en => match f en with
  | some (d, en1) => match g1 d en1 with
    | some en2 => match g2 d en2 with
      | some en3 => match g3 d en3 with
        | some en4 => some (.nx en4)
        | none => none
      | none => none
    | none => none
  | none => none
theorem vs_asg3 {t1 t2 t3 e : Expr} {pos : Pos} {f : FE} {g1 g2 g3 : FG} {v1 v2 v3 : List Nat} (he : VE X P e f) (h1 : VG X P t1 v1 g1) (h2 : VG X P t2 v2 g2) (h3 : VG X P t3 v3 g3)
    (ha : (assignEach [t1, t2, t3] X.env).map (·.2) = [assign t1 X.env, assign t2 X.env, assign t3 X.env] := by rfl) (hw : swappedStores [t1, t2, t3] e X.env = pure none := by rfl) :
    VS X P (.Assign [t1, t2, t3] e pos) (sAsg3 f g1 g2 g3) := PS.weak (ps_asg3 he h1 h2 h3 ha hw) fun Dn σ H h => by
  obtain ⟨Bf, ow, en, k, o, hf, q⟩ := h
  unfold sAsg3 at hf
  split at hf <;> first | cases hf | skip
  rename_i d en1 e1
  split at hf <;> first | cases hf | skip
  rename_i en2 e2
  split at hf <;> first | cases hf | skip
  rename_i en3 e3
  split at hf <;> first | cases hf | skip
  rename_i en4 e4
  exact ⟨Bf, ow, en, k, _, _, e1, fun v ow1 H1 k1 r1 p1 => ⟨Bf, ow1, en1, d, k1, p1, en2, e2, fun ow2 σ2 k2 r2 _ => ⟨Bf, ow2, en2, d, k2, r2.rp p1, en3, e3, fun ow3 σ3 k3 r3 _ =>
    ⟨Bf, ow3, en3, d, k3, r3.rp (r2.rp p1), en4, e4, fun ow4 σ4 k4 r4 _ => q _ _ _ k4 (((r1.trans r2).trans r3).trans r4).s⟩⟩⟩⟩
/-! ### xs[::-1] -/
def lRev (f : FE) : FL := fun en => match f en with
  | some (.list ds, en1) => some (ds.reverse, en1)
  | _ => none
theorem RpL.rev {H : Hp} {B : Addr → Prop} : ∀ {ds : List D} {xs : List V}, RpL H B ds xs → RpL H B ds.reverse xs.reverse := by
  have app : ∀ {as bs : List D} {xs ys : List V}, RpL H B as xs → RpL H B bs ys → RpL H B (as ++ bs) (xs ++ ys) := by
    intro as bs xs ys h1 h2
    induction as generalizing xs with
    | nil =>
      cases h1
      exact h2
    | cons a as ih =>
      cases h1 with
      | cons p r => exact .cons p (ih r)
  intro ds
  induction ds with
  | nil =>
    intro xs h
    cases h
    exact .nil
  | cons d ds ih =>
    intro xs h
    cases h with
    | cons p r =>
      rw [List.reverse_cons, List.reverse_cons]
      exact app (ih r) (.cons p .nil)
theorem vf_rev {e : Expr} {f : FE} {k : Nat} {p1 p2 p3 pos : Pos} (he : VE X P e f) : VF X P (.Subscript e (.Slice none none (some (.UnaryOp .USub (.Constant (.int 1) k p1) p2)) p3) pos) (lRev f) := PE.weak (pe_revL he) fun σ H Q h => by
  obtain ⟨Bf, ow, en, k, d, en', hf, q⟩ := h
  unfold lRev at hf
  split at hf <;> first | cases hf | skip
  rename_i ds en1 h1
  refine ⟨Bf, ow, en, k, _, _, h1, fun v ow1 H1 k1 r1 p1 => ?_⟩
  cases p1 with
  | lst n1 d1 s1 => exact ⟨_, _, rfl, .inl d1, fun p hp => fresh_of (f := Q) k1 r1 hp (RpL.rev s1) q⟩
end
/-! ### min, max of a list of numbers, or of two -/
def leastI : List Int → Option Int
  | [] => none
  | n :: ns => some (ns.foldl min n)
def greatI : List Int → Option Int
  | [] => none
  | n :: ns => some (ns.foldl max n)
theorem foldl_min_le : ∀ (ns : List Int) (n : Int), ns.foldl min n ≤ n ∧ (∀ y ∈ ns, ns.foldl min n ≤ y) ∧ (ns.foldl min n = n ∨ ns.foldl min n ∈ ns)
  | [], n => by simp
  | m :: ns, n => by
    obtain ⟨h1, h2, h3⟩ := foldl_min_le ns (min n m)
    rw [List.foldl_cons]
    refine ⟨by omega, fun y hy => ?_, ?_⟩
    · rcases List.mem_cons.mp hy with rfl | hy
      · omega
      · exact h2 y hy
    · rcases h3 with h3 | h3
      · rcases Int.le_total n m with h | h
        · left
          omega
        · right
          rw [h3, Int.min_eq_right h]
          exact List.mem_cons_self
      · exact .inr (List.mem_cons_of_mem _ h3)
theorem foldl_max_ge : ∀ (ns : List Int) (n : Int), n ≤ ns.foldl max n ∧ (∀ y ∈ ns, y ≤ ns.foldl max n) ∧ (ns.foldl max n = n ∨ ns.foldl max n ∈ ns)
  | [], n => by simp
  | m :: ns, n => by
    obtain ⟨h1, h2, h3⟩ := foldl_max_ge ns (max n m)
    rw [List.foldl_cons]
    refine ⟨by omega, fun y hy => ?_, ?_⟩
    · rcases List.mem_cons.mp hy with rfl | hy
      · omega
      · exact h2 y hy
    · rcases h3 with h3 | h3
      · rcases Int.le_total n m with h | h
        · right
          rw [h3, Int.max_eq_right h]
          exact List.mem_cons_self
        · left
          omega
      · exact .inr (List.mem_cons_of_mem _ h3)
theorem least_of {ns : List Int} {m z : Int} (e : leastI ns = some z) (hm : m ∈ ns) (h : ∀ y, y ∈ ns → m ≤ y) : m = z := by
  cases ns with
  | nil => cases hm
  | cons n ns =>
    cases e
    obtain ⟨h1, h2, h3⟩ := foldl_min_le ns n
    have a : ns.foldl min n ≤ m := by
      rcases List.mem_cons.mp hm with rfl | hm
      · exact h1
      · exact h2 m hm
    have b : m ≤ ns.foldl min n := by
      rcases h3 with h3 | h3
      · rw [h3]
        exact h n (by simp)
      · exact h _ (List.mem_cons_of_mem _ h3)
    omega
theorem great_of {ns : List Int} {m z : Int} (e : greatI ns = some z) (hm : m ∈ ns) (h : ∀ y, y ∈ ns → y ≤ m) : m = z := by
  cases ns with
  | nil => cases hm
  | cons n ns =>
    cases e
    obtain ⟨h1, h2, h3⟩ := foldl_max_ge ns n
    have a : m ≤ ns.foldl max n := by
      rcases List.mem_cons.mp hm with rfl | hm
      · exact h1
      · exact h2 m hm
    have b : ns.foldl max n ≤ m := by
      rcases h3 with h3 | h3
      · rw [h3]
        exact h n (by simp)
      · exact h _ (List.mem_cons_of_mem _ h3)
    omega
def gMinL : List D → Option D
  | [.list ds] => match intsOf ds with
    | some ns => (leastI ns).map .int
    | none => none
  | _ => none
def gMaxL : List D → Option D
  | [.list ds] => match intsOf ds with
    | some ns => (greatI ns).map .int
    | none => none
  | _ => none
/-! ### sorted(d, reverse=True): the keys of a dict, numbers -/
def downI (ns : List Int) : List Int := (sortI ns).reverse
theorem downI_eq {ns ns' : List Int} (h : ns'.Perm ns) (hp : ns'.Pairwise (· ≥ ·)) : ns' = downI ns := by
  have h1 : ns'.reverse.Pairwise (· ≤ ·) := by
    rw [List.pairwise_reverse]
    exact hp
  have := sortI_eq ((List.reverse_perm _).trans h) h1
  unfold downI
  rw [← this, List.reverse_reverse]
def rSortedDKR : List V → List V → Hp → L2.VK → Prop := fun xs zs H Q => ∃ (a : Addr) (kvs : List (Key × V)) (ns : List Int), xs = [.ref a] ∧ zs = [.bl true] ∧ H a = some (.dK kvs) ∧ kvs.map (·.1) = ns.map Sum.inl ∧ ∀ p, H p = none → Q (.ref p) (upd H p (.lst ((downI ns).map V.int)))
theorem cr_sortedDKR {X : Cx} (hcalm : X.calm = true) : CallRK X (.builtin "sorted") [Str.ofString "reverse"] rSortedDKR := by
  intro pins s σ H xs zs us ws Q I r rz q
  obtain ⟨a, kvs, ns, ex, ez, hd, hks, q⟩ := q
  subst ex
  subst ez
  obtain ⟨u, eu, rx⟩ := vals1 r
  subst eu
  cases rx
  obtain ⟨w1, rfl, ew⟩ := vals1 rz
  obtain rfl : w1 = Value.bool true := ew
  obtain ⟨z, lo, vs, rel, dd⟩ := dk_rd I.hok (.inl hd)
  obtain ⟨ep, hat⟩ := dd.dictAt
  have hkeys : vs.map (·.1) = ns.map Sum.inl := rel.keys.symm.trans hks
  have hl : vs.length = ns.length := by
    have e := congrArg List.length hkeys
    rw [List.length_map, List.length_map] at e
    exact e
  have h16 : vs.length ≤ sizeLine := by rw [← rel.length]; exact z
  refine PyProof.Rows.call_function_entry_kw PyProof.Rows.kind_sorted PyProof.Rows.plain_sorted PyProof.Rows.entry_sorted (PyProof.Rows.args_sorted_rev _ _) ?_
  unfold Builtin.«sorted»
  refine wpAny_bind (m := checkCount "sorted" 1 1 _) (wpAny_pure ?_)
  refine wpAny_bind (PySem.W.kdu_collect (A := X.A.in1) (PySem.W.kdl_dict (knd := mixKind X.prog X.w) (kvs := vs) (ep := ep) lo) (I.ok.hd hcalm) hat h16 fun h' tk acc hk hacc => ?_)
  have hal : acc.toList.length = ns.length := by rw [Array.length_toList, hacc.1, hl]
  have hS : IntsAre acc.toList ns := ints_keys hal fun j v e => by
    obtain ⟨k, x, e1, e2⟩ := hacc.2 j v (by rw [← Array.getElem?_toList]; exact e)
    have e3 : (vs.map (·.1))[j]? = some k := by rw [List.getElem?_map, e1]; all_goals rfl
    rw [hkeys, List.getElem?_map] at e3
    cases e4 : ns[j]? with
    | none => rw [e4] at e3; cases e3
    | some y =>
      rw [e4] at e3
      have e5 : Sum.inl y = k := Option.some.inj e3
      subst e5
      have e6 : keyIs (Sum.inl y) v = true := e2
      rcases keyIs_shape e6 with ⟨i, t, ek, ev⟩ | ⟨z, t, ek, ev⟩
      · cases ek
        exact ⟨_, t, rfl, ev⟩
      · cases ek
  have I1 : Inv X pins σ H { s with heap := h', toks := tk } := I.kept hk
  refine wpAny_bind (wpAny_newList ?_ (by rw [hal, ← hl]; exact h16))
  have hoL : (h'.push (seqObj "list" acc.toList.toArray 0)).get? h'.objs.size = some (seqObj "list" acc.toList.toArray 0) := Heap.get?_push_size _ rfl
  show wpAny _ _ _ _ _ { s with heap := h'.push (seqObj "list" acc.toList.toArray 0), toks := tk }
  refine wpAny_bind (wpAny_holding (PyProof.Rows.wpAny_call_entry_kw PyProof.Rows.slot_list_sort ⟨_, hoL, rfl⟩ PyProof.Rows.entry_list_sort
    (SrtR.list_sort_ordR (b := true) SrtO.swo_int (s := { s with heap := h'.push (seqObj "list" acc.toList.toArray 0), toks := tk }) hoL (by rw [hal, ← hl]; exact h16) (fun h2 => SrtO.ints_sortable hS h2) fun out h1 h2 => ⟨_, rfl, ?_⟩)
    (PyProof.Rows.args_list_sort_rev _ _)))
  obtain ⟨ns', k1, k2, k3⟩ := SrtR.ints_outR hS h1 h2
  have := downI_eq k2 k3
  subst this
  obtain ⟨e', he'⟩ := PyProof.Rows.sortedHeap_at (vs := acc.toList) (out := out.toArray.reverse) hoL
  have hlen : ((downI ns).map V.int).length ≤ sizeLine := by
    rw [List.length_map, k2.length_eq, ← hl]
    exact h16
  have e0 : ((out.toArray.reverse).toList).toArray = out.toArray.reverse := by rw [Array.toArray_toList]
  refine wpAny_pure ⟨_, rfl, .ref h'.objs.size, upd H h'.objs.size (.lst ((downI ns).map V.int)), I1.laid (t' := tk) (fun b u e => ?_) (Nat.le_refl _)
    (show ObjOk X.prog X.w _ _ _ (.lst ((downI ns).map V.int)) from ⟨hlen, (out.toArray.reverse).toList, e', vals_of_ints k1, by rw [e0]; exact he'⟩), rfl, q _ (I1.hok.fresh (Nat.le_refl _))⟩
  have hb : b < h'.objs.size := Heap.lt_size e
  rw [PyProof.Rows.sortedHeap_old (Nat.ne_of_lt hb) (by rw [size_push']; exact Nat.lt_succ_of_lt hb)]
  exact Heap.get?_push_of_some _ e
def lDownDK (i : Nat) : FL := fun en => match en[i]? with
  | some (.dc ⟨false, false⟩ kvs) => match intKeys kvs with
    | some ns => some ((downI ns).map .int, en)
    | none => none
  | _ => none
section
variable {X : Cx} {P : Pl}
theorem vf_downDK {i : Nat} {x : Str} {kc : Nat} {pc kp p p' pos : Pos} (hc : X.calm = true) (hN : X.N[i]? = some x) (hv : Vis X.env.scope x := by first | exact .inl rfl | exact .inr (.inl rfl) | exact .inr (.inr rfl)) (hg : Gl X "sorted") (hm : X.mg "sorted" = none)
    (hd : (x == ("__debug__" : Str)) = false := by decide) (hcd : (x == ("__classdict__" : Str)) = false := by decide)
    (hst : starEach [.Name x p'] X.env = (false, eval (.Name x p') X.env) :: starEach [] X.env := by rfl)
    (he : backTo pos (starEach [.Name x p'] X.env) = (false, eval (.Name x p') X.env) :: backTo pos (starEach [] X.env) := by rfl) (hpl : (backTo pos (starEach [.Name x p'] X.env)).any (·.1) = false := by rfl)
    (hall : (backToKw pos (keywordEach [⟨some "reverse", .Constant (.bool true) kc pc, kp⟩] X.env)).all (·.1.isSome) = true := by rfl) (hnone : (backToKw pos (keywordEach [⟨some "reverse", .Constant (.bool true) kc pc, kp⟩] X.env)).any (·.1.isNone) = false := by rfl)
    (hks : (backToKw pos (keywordEach [⟨some "reverse", .Constant (.bool true) kc pc, kp⟩] X.env)).filterMap (·.1) = [Str.ofString "reverse"] := by rfl) :
    VF X P (.Call (.Name "sorted" p) [.Name x p'] [⟨some "reverse", .Constant (.bool true) kc pc, kp⟩] pos) (lDownDK i) :=
  PE.weak (pe_callBK (cr_sortedDKR hc) hg hm (by decide +kernel) (pa_cons (pe_var hN hv hd hcd) pa_nil hst) (pk_cons pe_bl pk_nil) (by decide) (by decide) he hpl hall hnone hks) fun σ H Q h => by
    obtain ⟨Bf, ow, en, k, d, en', hf, q⟩ := h
    unfold lDownDK at hf
    split at hf <;> first | cases hf | skip
    rename_i kvs e0
    split at hf <;> first | cases hf | skip
    rename_i ns e1
    obtain ⟨a, g1, g2, g3⟩ := k.hdc i _ kvs e0
    obtain ⟨ks, g4, g5⟩ := g3
    exact ⟨_, g2, a, ks, ns, rfl, rfl, g4, intKeys_of g5 e1, fun p hp => fresh_of (f := Q) k .refl hp (RpL.ofInts _) q⟩
end
end VL

namespace VL
open PySem PySem.Spec
open PyProof.Rows L2
theorem leastI_pos {ns : List Int} {z : Int} (e : leastI ns = some z) : 0 < ns.length := by
  cases ns with
  | nil => cases e
  | cons n ns => simp
theorem greatI_pos {ns : List Int} {z : Int} (e : greatI ns = some z) : 0 < ns.length := by
  cases ns with
  | nil => cases e
  | cons n ns => simp
theorem ca_minL {K : PySem.W.Frag} : CaV (rMin K) gMinL := by
  intro H B ds d vs Q e r nb q
  unfold gMinL at e
  split at e <;> first | cases e | skip
  split at e <;> first | cases e | skip
  rename_i ns h
  rw [Option.map_eq_some_iff] at e
  obtain ⟨z, e1, rfl⟩ := e
  have := intsOf_eq h
  subst this
  cases r with
  | cons p r =>
    cases r
    cases p with
    | lst n1 d1 s1 =>
      have := s1.ints
      subst this
      refine ⟨_, ns, rfl, .inl d1, leastI_pos e1, fun m hm hle => ?_⟩
      rw [least_of e1 hm hle]
      exact q _ H .refl (.int _)
theorem ca_maxL {K : PySem.W.Frag} : CaV (rMax K) gMaxL := by
  intro H B ds d vs Q e r nb q
  unfold gMaxL at e
  split at e <;> first | cases e | skip
  split at e <;> first | cases e | skip
  rename_i ns h
  rw [Option.map_eq_some_iff] at e
  obtain ⟨z, e1, rfl⟩ := e
  have := intsOf_eq h
  subst this
  cases r with
  | cons p r =>
    cases r
    cases p with
    | lst n1 d1 s1 =>
      have := s1.ints
      subst this
      refine ⟨_, ns, rfl, .inl d1, greatI_pos e1, fun m hm hle => ?_⟩
      rw [great_of e1 hm hle]
      exact q _ H .refl (.int _)
end VL

namespace VL
open PySem PySem.Spec
open PyProof.Rows L2
/-! ### sorted(set(xs)): a list of numbers, each once, ascending -/
abbrev eS (w : World) : Obj := { cls := .type "set", dict := none, data := .set #[] 0 (.fresh 0 0 (!w.params.followText "set-order")) }
section
variable {P : Program} {w : World} {A : Around} {E : Value → Shared → Prop} {s : Shared}
theorem set_of_ints {b : Addr} {vs : Array Value} (ns : List Int) {Q : Value → Shared → Prop} (hh : A.handled = none) (hb : s.heap.IsList b vs) (hi : IntsAre vs.toList ns) (hs : ns.length + 1 < scanBound)
    (q : ∀ (h' : Heap) (tk c : Nat), SetR w h' s.heap.objs.size (fun j => decide (j ∈ ns)) c → c ≤ ns.length → (∀ b o, s.heap.get? b = some o → h'.get? b = some o) → Q (.ref s.heap.objs.size) { s with heap := h', toks := tk }) :
    wpAny (model P w) A (call (.type "set") [.ref b]) Q E s := by
  have hsz : vs.size = ns.length := by
    rw [← Array.length_toList]
    exact IntsAre.length hi
  have mro := F.called_set.mro
  obtain ⟨_, _, mro⟩ := mro
  have made := F.called_set.made
  have subs := F.called_set.sub
  refine wpAny_call (codeAny_of_tree ?_)
  show wpAny _ _ (callAny (.type "set") _) _ _ _
  refine wpAny_pure ⟨Code.quiet_builtin _ (by decide +kernel), codeAny_builtin F.entry_type_call ?_⟩
  rw [Around.under_plain (weight_type_call_type "set" [.ref b] []) rfl]
  have notType := F.called_set.notType
  have canCreate := F.called_set.canCreate
  have tycall := F.typeCall_set_1 (.ref b)
  repeat (any_goals (first | assumption | wp_step))
  refine codeAny_mono (code_set_led1 (.ref b) (E := E) (Q₁ := fun v t => v = .ref s.heap.objs.size ∧ t = { s with heap := s.heap.push (eS w) }) ⟨rfl, rfl⟩) fun r t hr => ?_
  cases r with
  | error e => exact hr
  | ok fl =>
    cases fl with
    | next => exact hr.elim
    | brk => exact hr.elim
    | cont => exact hr.elim
    | ret v =>
      obtain ⟨rfl, rfl⟩ := hr
      have hS : (s.heap.push (eS w)).get? s.heap.objs.size = some (eS w) := Heap.get?_push_size _ rfl
      have hT : Shared.TypeIs { s with heap := s.heap.push (eS w) } (.ref s.heap.objs.size) "set" := ⟨_, hS, rfl⟩
      have lk := F.called_set.init.lookup
      have bi := F.called_set.init.bind (.ref s.heap.objs.size)
      repeat (any_goals (first | assumption | wp_step))
      refine codeAny_mono (codeAny_call_builtin (R := wants (fun r t => r = .none ∧ ∃ g tk c, t = { s with heap := g, toks := tk } ∧ SetR w g s.heap.objs.size (fun j => decide (j ∈ ns)) c ∧ c ≤ ns.length ∧ (∀ b o, s.heap.get? b = some o → g.get? b = some o)) E)
        F.called_set.init.plain F.entry_set_init (check_set_init_1 hT ?_)) fun r t hr => ?_
      · obtain ⟨⟨bc, bd, bx, bs⟩, ho, hc, n, hx⟩ := hb
        simp only at hc hx
        subst hc
        subst hx
        have hu : s.heap.objs.size ≠ b := Nat.ne_of_gt (Heap.lt_size ho)
        have sz : (s.heap.push (eS w)).objs.size = s.heap.objs.size + 1 := Heap.size_push ..
        have ho' := Heap.get?_push_of_some (eS w) ho
        have s1 := F.sub_list_set
        have s2 := F.sub_list_frozenset
        have s3 : (Value.type "list" == Value.type "dict") = false := by decide
        have hl : (s.heap.push (eS w)).IsList b vs := ⟨_, ho', rfl, n, rfl⟩
        unfold Builtin.«set.__init__» noKeywords Builtin.Frozenset.updateFrom
        generalize hI : pyIter = I
        wp_walk
        subst hI
        refine wpAny_pyIter_list hl (wpAny_bind (wpAny_runValue ?_))
        have h3 : A.in1.in1.in1.handled = none := by simp [hh]
        have n1 : b ≠ (s.heap.push (eS w)).objs.size := by
          rw [sz]
          exact Nat.ne_of_lt (Nat.lt_succ_of_lt (Heap.lt_size ho))
        refine set_update_ints ((Walks.list h3 _ b n1 vs).toS) s.heap.objs.size ?_ ns hsz hs (fun i v e => ?_) (vs.size - 0) 0 _ (by omega) (Nat.zero_le _) ⟨⟨_, Heap.get?_push_size _ rfl, rfl, rfl⟩, (hl.push _)⟩ ⟨0, Nat.le_refl 0, setR_new_at (Heap.get?_push_of_some _ hS)⟩ fun t c hm hc R => ?_
        · rw [sz]
          intro z
          rcases List.mem_cons.mp z with z | z
          · exact Nat.ne_of_lt (Nat.lt_succ_self _) z
          · exact hu (List.mem_singleton.mp z)
        · have hi' : i < ns.length := by
            rw [← hsz]
            exact (Array.getElem?_eq_some_iff.mp e).1
          obtain ⟨k, e2⟩ := PyProof.Rows.IntsAre.int_at hi i v (by rw [Array.getElem?_toList, e])
          refine ⟨ns[i], k, List.getElem?_eq_getElem hi', ?_⟩
          rw [e2, List.getD_eq_getElem?_getD, List.getElem?_eq_getElem hi'] <;> rfl
        · obtain ⟨g, gs, dr, tk, os⟩ := t
          obtain rfl : gs = s.gens := hm.gens
          obtain rfl : dr = s.drawn := hm.drawn
          obtain rfl : os = s.os := hm.os
          show wpAny _ _ _ _ _ _
          refine wpAny_pure ?_
          show wpAny _ _ (ret Value.none) _ _ _
          rw [hsz] at hc
          refine wpAny_pure ⟨rfl, g, tk, c, rfl, R, hc, fun x o e => ?_⟩
          have hx := Heap.lt_size e
          refine hm.heap x o (fun z => ?_) (Heap.get?_push_of_some _ (Heap.get?_push_of_some _ e))
          rcases List.mem_cons.mp z with z | z
          · exact Nat.ne_of_lt hx z
          · rw [sz] at z
            exact Nat.ne_of_lt (Nat.lt_succ_of_lt hx) (List.mem_singleton.mp z)
      · cases r with
        | error e => exact hr
        | ok fl =>
          cases fl with
          | next => exact hr.elim
          | brk => exact hr.elim
          | cont => exact hr.elim
          | ret r =>
            obtain ⟨rfl, g, tk, c, rfl, R, hc, hk⟩ := hr
            repeat (any_goals (first | assumption | wp_step))
            exact q _ _ _ R hc hk
end
end VL

namespace VL
open PySem PySem.Spec
open PyProof.Rows L2
/-! each number once -/
def uniqI : List Int → List Int
  | [] => []
  | n :: ns => if n ∈ ns then uniqI ns else n :: uniqI ns
theorem mem_uniqI : ∀ {ns : List Int} {k : Int}, k ∈ uniqI ns ↔ k ∈ ns
  | [], k => by simp [uniqI]
  | n :: ns, k => by
    unfold uniqI
    split
    · rename_i h
      rw [mem_uniqI, List.mem_cons]
      constructor
      · exact .inr
      · rintro (rfl | h2)
        · exact h
        · exact h2
    · rw [List.mem_cons, List.mem_cons, mem_uniqI]
theorem nodup_uniqI : ∀ ns : List Int, (uniqI ns).Nodup
  | [] => List.nodup_nil
  | n :: ns => by
    unfold uniqI
    split
    · exact nodup_uniqI ns
    · rename_i h
      exact List.nodup_cons.mpr ⟨fun z => h (mem_uniqI.mp z), nodup_uniqI ns⟩
theorem len_uniqI : ∀ ns : List Int, (uniqI ns).length ≤ ns.length
  | [] => Nat.le_refl _
  | n :: ns => by
    have := len_uniqI ns
    unfold uniqI
    split <;> simp <;> omega
def setI (ns : List Int) : List Int := sortI (uniqI ns)
theorem mem_setI {ns : List Int} {k : Int} : k ∈ setI ns ↔ k ∈ ns := by
  unfold setI
  rw [(sortI_perm _).mem_iff, mem_uniqI]
theorem nodup_setI (ns : List Int) : (setI ns).Nodup := (sortI_perm _).nodup_iff.mpr (nodup_uniqI ns)
theorem len_setI (ns : List Int) : (setI ns).length ≤ ns.length := by
  unfold setI
  rw [(sortI_perm _).length_eq]
  exact len_uniqI ns
theorem setI_pw (ns : List Int) : (setI ns).Pairwise (· < ·) := by
  refine List.Pairwise.imp (fun h => ?_) ((List.pairwise_and_iff.mpr ⟨sortI_pw (uniqI ns), nodup_setI ns⟩ : List.Pairwise _ (setI ns)))
  exact Int.lt_iff_le_and_ne.mpr h
theorem setI_eq {ns ms : List Int} (h1 : ms.Pairwise (· ≤ ·)) (h2 : ms.Nodup) (h3 : ∀ k, k ∈ ms ↔ k ∈ ns) : ms = setI ns :=
  sortI_eq ((List.perm_ext_iff_of_nodup h2 (nodup_uniqI ns)).mpr fun k => (h3 k).trans mem_uniqI.symm) h1
section
variable {X : Cx}
theorem keyOf_ints {es : List (Int × Value)} (g : ∀ e ∈ es, GoodE e) : es.map keyOf = (es.map (·.2)).map L2.vInt := by
  rw [List.map_map]
  exact List.map_congr_left fun e _ => key_vInt e
theorem ints_vInt {vs : List Value} (h : ∀ v ∈ vs, ∃ k t, v = Value.int k t) : IntsAre vs (vs.map L2.vInt) := by
  induction vs with
  | nil => exact .nil
  | cons v vs ih =>
    obtain ⟨k, t, rfl⟩ := h v (by simp)
    exact .cons _ _ (ih fun w hw => h w (List.mem_cons_of_mem _ hw))
def tSortSet (K : PySem.W.Frag) (ta : TE) : TE := fun σ H Q => ta σ H fun x H1 => ∃ (l : Addr) (ns : List Int), x = V.ref l ∧ SqL K H1 l (ns.map V.int) ∧ ns.length ≤ 1000 ∧ ∀ p, H1 p = none → Q (.ref p) (upd H1 p (.lst ((setI ns).map V.int)))
theorem pe_sortSet {a : Expr} {ta : TE} {p p2 q pos : Pos} (hc : X.calm = true) (hg : Gl X "sorted") (hm : X.mg "sorted" = none) (hg2 : Gl X "set") (hm2 : X.mg "set" = none) (ha : PE X a ta)
    (na : starEach [a] X.env = (false, eval a X.env) :: starEach [] X.env := by rfl) : PE X (.Call (.Name "sorted" p) [.Call (.Name "set" p2) [a] [] q] [] pos) (tSortSet X.K ta) := by
  refine ⟨fun pins s σ H Q I h => ?_⟩
  refine Call_ (ld_blt I hg hm (show bootBuiltins "sorted" = some (.builtin "sorted") by decide +kernel) ?_)
  refine PyProof.Rows.callWith_builtin1 (PyProof.Rows.args_cons ?_ rfl) rfl rfl
  refine Call_ (ld_blt I hg2 hm2 PyProof.Rows.boot_set ?_)
  refine PyProof.Rows.callWith_type1 (PyProof.Rows.args_cons (thn (ha.run pins s σ H _ I h) fun v s1 ⟨x, H1, I1, r1, q1⟩ => PyProof.Rows.args_nil ?_) na) na rfl
  obtain ⟨l, ns, rfl, hq, hl, q1⟩ := q1
  cases r1
  obtain ⟨its, r, pl, hz⟩ := I1.list hq
  have hi := I1.ok.hd hc
  refine set_of_ints ns hi pl.isList (by simpa using r.ints) (by unfold scanBound; omega) fun h' tk c R hcn k => ?_
  obtain ⟨o, es, ep, t, ho, hex, hdt, g, nd, hm3, hb, hf, hn, hr, hl2⟩ := R
  refine PyProof.Rows.args_nil ?_
  refine Calls.call_function_entry PyProof.Rows.kind_sorted PyProof.Rows.plain_sorted PyProof.Rows.entry_sorted (PyProof.Rows.args_sorted1 _) ?_
  unfold Builtin.«sorted»
  refine wpAny_bind (m := checkCount "sorted" 1 1 _) (wpAny_pure ?_)
  have hh : X.A.in1.handled = none := by simp [hi]
  refine wpAny_bind (collect_set (s := { s1 with heap := h', toks := tk }) hh ⟨o, ho, hex.1, hdt⟩ hf hb hr hl2 fun s2 vs k2 hz2 g2 o2 pm => ?_)
  have hv : ∀ v ∈ vs, ∃ k t, v = Value.int k t := fun v hv => by
    obtain ⟨e, he, rfl⟩ := List.mem_map.mp (pm.mem_iff.mp hv)
    obtain ⟨kk, tt, e2, _⟩ := g e he
    exact ⟨kk, tt, e2⟩
  have hS := ints_vInt hv
  have hp : (vs.map L2.vInt).Perm (es.toList.map keyOf) := by
    rw [keyOf_ints g]
    exact pm.map _
  have hvl : vs.length ≤ 1000 := by
    rw [pm.length_eq, List.length_map, Array.length_toList, hn]
    omega
  have h16 : vs.length ≤ sizeLine := Nat.le_trans hvl (by decide)
  refine wpAny_bind (wpAny_newList ?_ h16)
  have hoL : (s2.heap.push (seqObj "list" vs.toArray 0)).get? s2.heap.objs.size = some (seqObj "list" vs.toArray 0) := Heap.get?_push_size _ rfl
  refine wpAny_bind (wpAny_holding (wpAny_call_entry PyProof.Rows.slot_list_sort ⟨_, hoL, rfl⟩ PyProof.Rows.entry_list_sort
    (SrtO.list_sort_ord SrtO.swo_int (s := { s2 with heap := s2.heap.push (seqObj "list" vs.toArray 0) }) hoL h16 (fun h2 => SrtO.ints_sortable hS h2) fun out h1 h2 => ⟨_, rfl, ?_⟩)
    (PyProof.Rows.args_list_sort _)))
  obtain ⟨k1, k3, k4⟩ := SrtO.ints_out hS h1 h2
  have hp2 := k3.trans hp
  have he := setI_eq k4 (hp2.nodup_iff.mpr nd) (ns := ns) fun j => by rw [hp2.mem_iff, ← hm3 j, decide_eq_true_eq]
  rw [he] at k1
  obtain ⟨e', he'⟩ := PyProof.Rows.sortedHeap_at (vs := vs) (out := out.toArray) hoL
  have hlen : ((setI ns).map V.int).length ≤ sizeLine := by
    rw [List.length_map]
    exact Nat.le_trans (len_setI ns) (Nat.le_trans hl (by decide))
  have hsz : s1.heap.objs.size ≤ s2.heap.objs.size := Nat.le_trans (Nat.le_of_lt (Heap.lt_size ho)) hz2
  have hnone : H1 s2.heap.objs.size = none := I1.hok.fresh hsz
  have kk : ∀ b u, s1.heap.get? b = some u → (PyProof.Rows.sortedHeap (s2.heap.push (seqObj "list" vs.toArray 0)) s2.heap.objs.size vs out.toArray).get? b = some u := fun b u e => by
    have e3 := k2 b u (k b u e)
    have hlt := Heap.lt_size e3
    rw [PyProof.Rows.sortedHeap_old (Nat.ne_of_lt hlt) (by rw [size_push']; exact Nat.lt_succ_of_lt hlt)]
    exact Heap.get?_push_of_some _ e3
  refine wpAny_pure ⟨_, rfl, .ref s2.heap.objs.size, upd H1 s2.heap.objs.size (.lst ((setI ns).map V.int)), ?_, rfl, q1 _ hnone⟩
  have J : Inv X pins σ (upd H1 s2.heap.objs.size (.lst ((setI ns).map V.int))) { s1 with heap := PyProof.Rows.sortedHeap (s2.heap.push (seqObj "list" vs.toArray 0)) s2.heap.objs.size vs out.toArray, gens := s2.gens, drawn := s2.drawn, toks := s2.toks } :=
    I1.call (ch := []) (Un.laid kk hsz hnone) (I1.hok.laid kk hsz ⟨hlen, out, e', vals_of_ints k1, he'⟩) (by rw [g2]; exact I1.bare) (fun _ z => nomatch z)
  have e4 : s2 = { s1 with heap := s2.heap, gens := s2.gens, drawn := s2.drawn, toks := s2.toks } := by
    cases s2
    cases s1
    cases o2
    rfl
  rw [e4]
  exact J
variable {P : Pl}
def lSortSet (f : FE) : FL := fun en => match f en with
  | some (.list ds, en1) => match intsOf ds with
    | some ns => if ns.length ≤ 1000 then some ((setI ns).map .int, en1) else none
    | none => none
  | _ => none
theorem vf_sortSet {a : Expr} {f : FE} {p p2 q pos : Pos} (hc : X.calm = true) (hg : Gl X "sorted") (hm : X.mg "sorted" = none) (hg2 : Gl X "set") (hm2 : X.mg "set" = none) (ha : VE X P a f)
    (na : starEach [a] X.env = (false, eval a X.env) :: starEach [] X.env := by rfl) : VF X P (.Call (.Name "sorted" p) [.Call (.Name "set" p2) [a] [] q] [] pos) (lSortSet f) := PE.weak (pe_sortSet hc hg hm hg2 hm2 ha na) fun σ H Q h => by
  obtain ⟨Bf, ow, en, k, d, en', hf, q⟩ := h
  unfold lSortSet at hf
  split at hf <;> first | cases hf | skip
  rename_i ds en1 h1
  split at hf <;> first | cases hf | skip
  rename_i ns h2
  split at hf <;> first | cases hf | skip
  rename_i h3
  have := intsOf_eq h2
  subst this
  refine ⟨Bf, ow, en, k, _, _, h1, fun v ow1 H1 k1 r1 p1 => ?_⟩
  cases p1 with
  | lst n1 d1 s1 =>
    have := s1.ints
    subst this
    exact ⟨_, ns, rfl, .inl d1, h3, fun p hp => fresh_of (f := Q) k1 r1 hp (RpL.ofInts _) q⟩
end
end VL

namespace VL
open PySem PySem.Spec
open PyProof.Rows L2
/-! ### abs -/
def gAbs : List D → Option D
  | [.int i] => some (.int (if i < 0 then -i else i))
  | _ => none
theorem ca_abs : CaV (fun xs H Q => ∃ i, xs = [.int i] ∧ Q (.int (if i < 0 then -i else i)) H) gAbs := by
  intro H B ds d vs Q e r nb q
  unfold gAbs at e
  split at e <;> first | cases e | skip
  cases r with
  | cons p r =>
    cases r
    cases p
    exact ⟨_, rfl, q _ H .refl (.int _)⟩
/-! ### xs.clear(), xs.extend(ys) -/
def sClr (i : Nat) : FS := fun en => match en[i]? with
  | some (.ow _) => some (.nx (en.set i (.ow [])))
  | _ => none
section
variable {X : Cx} {P : Pl} {e : Expr} {fa : FE} {pos apos cpos : Pos}
theorem vs_clear {i : Nat} {x : Str} {p' : Pos} (hN : X.N[i]? = some x) (hv : Vis X.env.scope x := by first | exact .inl rfl | exact .inr (.inl rfl) | exact .inr (.inr rfl))
    (hbase : attributeBase (.Name x p') "clear" X.env (eval (.Name x p') X.env) = eval (.Name x p') X.env := by rfl)
    (hline : (apos.endLine == cpos.line) = true := by rfl)
    (hd : (x == ("__debug__" : Str)) = false := by decide) (hcd : (x == ("__classdict__" : Str)) = false := by decide)
    (hs : swapsWith (.Call (.Attribute (.Name x p') "clear" apos) [] [] cpos) none pos.line X.env = pure false := by rfl) :
    VS X P (.Expr (.Call (.Attribute (.Name x p') "clear" apos) [] [] cpos) pos) (sClr i) :=
  PS.weak (ps_expr (pe_bm0 PySem.F.plainAttrs_list PySem.F.slot_list_clear PySem.F.type_list_clear mt_clear (pe_var hN hv hd hcd) hbase hline) hs) fun Dn σ H h => by
    obtain ⟨Bf, ow, en, k, o, hf, q⟩ := h
    unfold sClr at hf
    split at hf <;> first | cases hf | skip
    rename_i ds e0
    obtain ⟨a, xs0, g1, g2, g3, g4⟩ := k.hown i ds e0
    obtain ⟨k2, r2⟩ := k.wr g1 g3 .nil
    exact ⟨_, g2, .inl ⟨rfl, _, SqL.of g3⟩, a, xs0, rfl, rfl, g3, q _ _ _ k2 r2.s⟩
def sExt (i : Nat) (f : FL) : FS := fun en => if isOw en[i]? then (match f en with
  | some (es, en1) => match en1[i]? with
    | some (.ow ds) => if ds.length + es.length ≤ sizeLine then some (.nx (en1.set i (.ow (ds ++ es)))) else none
    | _ => none
  | none => none) else none
theorem vs_extend {f : FL} {i : Nat} {x : Str} {p' : Pos} (hN : X.N[i]? = some x) (hv : Vis X.env.scope x := by first | exact .inl rfl | exact .inr (.inl rfl) | exact .inr (.inr rfl)) (he : VF X P e f)
    (hbase : attributeBase (.Name x p') "extend" X.env (eval (.Name x p') X.env) = eval (.Name x p') X.env := by rfl)
    (hfew : ((backTo cpos (starEach [e] X.env)).all (fun x => !x.1) && (backToKw cpos (keywordEach [] X.env)).all (fun x => x.1.isSome)
      && decide ([e].length + ([] : List Keyword).length + (if ([] : List Keyword).isEmpty then 0 else 1) < 30)) = true := by rfl)
    (hline : (apos.endLine == cpos.line) = true := by rfl) (hst : starEach [e] X.env = (false, eval e X.env) :: starEach [] X.env := by rfl) (hplain : (backTo cpos (starEach [] X.env)).any (·.1) = false := by rfl)
    (hd : (x == ("__debug__" : Str)) = false := by decide) (hcd : (x == ("__classdict__" : Str)) = false := by decide)
    (hs : swapsWith (.Call (.Attribute (.Name x p') "extend" apos) [e] [] cpos) none pos.line X.env = pure false := by rfl) :
    VS X P (.Expr (.Call (.Attribute (.Name x p') "extend" apos) [e] [] cpos) pos) (sExt i f) :=
  PS.weak (ps_expr (pe_bm PySem.F.plainAttrs_list PySem.F.slot_list_extend PySem.F.type_list_extend mt_extend (pe_var hN hv hd hcd) (pa_cons he pa_nil hst) hbase hfew hline hst hplain) hs) fun Dn σ H h => by
    obtain ⟨Bf, ow, en, k, o, hf, q⟩ := h
    unfold sExt at hf
    split at hf <;> first | cases hf | skip
    rename_i h0
    obtain ⟨ds0, e0⟩ := isOw_of h0
    obtain ⟨a, xs0, g1, g2, g3, g4⟩ := k.hown i ds0 e0
    split at hf <;> first | cases hf | skip
    rename_i es en1 h1
    split at hf <;> first | cases hf | skip
    rename_i ds h2
    split at hf <;> first | cases hf | skip
    rename_i hz
    refine ⟨_, g2, .inl ⟨rfl, _, SqL.of g3⟩, Bf, ow, en, k, es, en1, h1, fun p ys ow1 H1 k1 r1 b1 b2 b3 b4 hp rs => ?_⟩
    have k0 := k1.unins
    obtain ⟨a', xs1, w1, w2, w3, w4⟩ := own_back k k0 r1 h2
    rw [g1] at w1
    cases w1
    obtain ⟨k2, r2⟩ := k0.wr w2 w3 (w4.append rs.unins)
    exact ⟨a, p, xs1, ys, rfl, rfl, w3, hp, by rw [← w4.length, ← rs.length]; exact hz, q _ _ _ k2 (r1.trans r2).s⟩
end
/-! ### a tuple of texts that the top has written -/
structure Cst (K : PySem.W.Frag) (mg : Str → Option Value) (x : Str) (ws : List Str) : Prop where
  ex : ∃ c, mg x = some (.ref c) ∧ ∀ H : Hp, SqT K H c (ws.map V.str)
def eInC (neg : Bool) (ws : List Str) (f : FE) : FE := fun en => match f en with
  | some (.str x, en1) => some (.bool (if neg then !decide (x ∈ ws) else decide (x ∈ ws)), en1)
  | _ => none
section
variable {X : Cx} {P : Pl} {e : Expr} {fa : FE} {pos p : Pos}
theorem inV_strs (x : Str) : ∀ ws : List Str, inV (.str x) (ws.map V.str) = decide (x ∈ ws)
  | [] => by simp [inV]
  | w :: ws => by
    have := inV_strs x ws
    unfold inV at this ⊢
    rw [List.map_cons, List.any_cons, this]
    by_cases h : x = w
    · subst h
      simp [eqV]
    · have h2 : ¬ w = x := fun z => h z.symm
      simp [eqV, h, h2]
theorem strs_flat : ∀ ws : List Str, (ws.map V.str).all flatV = true
  | [] => rfl
  | w :: ws => by
    rw [List.map_cons, List.all_cons, strs_flat ws]
    rfl
theorem inC_tv {x : Str} {ws : List Str} {c : Addr} (h2 : ∀ H : Hp, SqT X.K H c (ws.map V.str)) (σ : L2.St) (H : Hp) (Q : L2.VK) (h : tv P (eInC false ws fa) σ H Q) : tOp (rIn X.K false) (tv P fa) (tC (.ref c)) σ H Q := by
  obtain ⟨Bf, ow, en, k, d, en', hf, q⟩ := h
  unfold eInC at hf
  split at hf <;> first | cases hf | skip
  rename_i y h3
  refine ⟨Bf, ow, en, k, _, _, h3, fun v ow1 H1 k1 r1 p1 => ?_⟩
  cases p1
  refine ⟨c, _, rfl, .inr (h2 H1), rfl, strs_flat ws, ?_⟩
  have := q (.bl (decide (y ∈ ws))) ow1 H1 k1 r1 (.bl _)
  simpa [inV_strs] using this
theorem ve_inC {x : Str} {ws : List Str} (C : Cst X.K X.mg x ws) (hg : Gl X x) (he : VE X P e fa) (hdb : (x == ("__debug__" : Str)) = false := by decide) : VE X P (.Compare e [.In] [.Name x p] pos) (eInC false ws fa) :=
  let ⟨c, h1, h2⟩ := C.ex
  PE.weak (pe_cmpR op_in_seq he (pe_glob hg h1 (show RelV (.ref c) (.ref c) from rfl) hdb) (by rfl)) (inC_tv (x := x) h2)
theorem vt_inC {x : Str} {ws : List Str} (C : Cst X.K X.mg x ws) (hg : Gl X x) (he : VE X P e fa) (hdb : (x == ("__debug__" : Str)) = false := by decide) : VT X P (.Compare e [.In] [.Name x p] pos) (fBool (eInC false ws fa)) :=
  let ⟨c, h1, h2⟩ := C.ex
  PT.weak (pt_cmpR op_in_seq he (pe_glob hg h1 (show RelV (.ref c) (.ref c) from rfl) hdb) (by rfl)) fun σ H Q h => inC_tv (x := x) h2 σ H _ (tvT_bool σ H Q h)
end
end VL

namespace VL
open PySem PySem.Spec
open PyProof.Rows L2
/-! ### a lambda's body, over the heap itself: all that was there stays as it is -/
abbrev Kp (h h' : Heap) : Prop := ∀ b o, h.get? b = some o → h'.get? b = some o
def PJ (P : Program) (w : World) (A : Around) (env : Env) (e : Expr) (h0 : Heap) (φ : Value → Heap → Prop) : Prop :=
  ∀ (s : Shared) (E Q : Value → Shared → Prop), Kp h0 s.heap → (∀ v h' tk, Kp s.heap h' → φ v h' → Q v { s with heap := h', toks := tk }) → wpAny (model P w) A (eval e env) Q E s
section
variable {P : Program} {w : World} {A : Around} {env : Env} {h0 : Heap} {a b : Expr} {pos : Pos} {x : Str} {u : Value}
theorem Kp.refl (h : Heap) : Kp h h := fun _ _ e => e
theorem Kp.trans {h h1 h2 : Heap} (a : Kp h h1) (b : Kp h1 h2) : Kp h h2 := fun x o e => b x o (a x o e)
theorem pj_loc {m : Str → Option Value} (hk : env.scope.kind = .function) (hl : env.kindOf x = some .local) (hn : h0.Ns env.locals m) (hm : m x = some u) (hd : (x == ("__debug__" : Str)) = false := by decide) : PJ P w A env (.Name x pos) h0 fun v _ => v = u := fun s E Q k q =>
  wpAny_Name (wpAny_loadName_local hk hl (hn.keeps k) hm (q u s.heap s.toks (Kp.refl _) rfl)) hd
theorem pj_free {c : Addr} (hk : env.scope.kind = .function) (hl : env.kindOf x = some .free) (hc : env.cells.lookup x = some c) (hv : h0.IsCell c (some u)) (hd : (x == ("__debug__" : Str)) = false := by decide) (hcd : (x == ("__classdict__" : Str)) = false := by decide) :
    PJ P w A env (.Name x pos) h0 fun v _ => v = u := fun s E Q k q => by
  obtain ⟨o, ho, hd'⟩ := hv
  exact wpAny_Name (wpAny_loadName_free hk hl hc ⟨o, k _ _ ho, hd'⟩ (q u s.heap s.toks (Kp.refl _) rfl) hcd) hd
theorem pj_int {i : Int} {j : Nat} : PJ P w A env (.Constant (.int i) j pos) h0 fun v _ => ∃ t, v = .int i t := fun s E Q k q => wpAny_Constant_int (q _ s.heap _ (Kp.refl _) ⟨_, rfl⟩)
theorem pj_ixL {p : Addr} {its : Array Value} {i : Int} {y : Value} (ha : PJ P w A env a h0 fun v _ => v = .ref p) (hb : PJ P w A env b h0 fun v _ => ∃ t, v = .int i t) (hl : h0.IsList p its) (h1 : 0 ≤ i) (h2 : i < 2 ^ 63) (hx : its[i.toNat]? = some y) (hs : PlainIx b) :
    PJ P w A env (.Subscript a b pos) h0 fun v _ => v = y := fun s E Q k q => by
  refine Subscript_ (ha s E _ k fun v h1' t1 k1 e1 => ?_)
  subst e1
  refine hb { s with heap := h1', toks := t1 } E _ (k.trans k1) fun v h2' t2 k2 e2 => ?_
  obtain ⟨t, rfl⟩ := e2
  have hl' : h2'.IsList p its := by
    obtain ⟨o, e, r⟩ := hl
    exact ⟨o, (k.trans (k1.trans k2)) _ _ e, r⟩
  exact item_listR (s := { s with heap := h2', toks := t2 }) hl' h1 h2 hx (q y h2' t2 (k1.trans k2) rfl) (hs _ _)
theorem pj_ixT {p : Addr} {its : Array Value} {i : Int} {j : Nat} {y : Value} (ha : PJ P w A env a h0 fun v _ => v = .ref p) (hb : PJ P w A env b h0 fun v _ => ∃ t, v = .int i t) (hl : IsTup h0 p its) (h1 : -(2 ^ 63) ≤ i) (h2 : i < 2 ^ 63) (hj : seqIndex? i its.size = some j) (hx : its[j]? = some y) (hs : PlainIx b) :
    PJ P w A env (.Subscript a b pos) h0 fun v _ => v = y := fun s E Q k q => by
  refine Subscript_ (ha s E _ k fun v h1' t1 k1 e1 => ?_)
  subst e1
  refine hb { s with heap := h1', toks := t1 } E _ (k.trans k1) fun v h2' t2 k2 e2 => ?_
  obtain ⟨t, rfl⟩ := e2
  have hl' : IsTup h2' p its := by
    obtain ⟨o, e, r⟩ := hl
    exact ⟨o, (k.trans (k1.trans k2)) _ _ e, r⟩
  exact subscriptTail_builtinR (s := { s with heap := h2', toks := t2 }) (x := y) hl'.typeIs slot_tuple_getitem.lookup
    (getItem_tuple (s := { s with heap := h2', toks := t2 }) (j := j) (Q := fun r s' => r = y ∧ Q r s') hl' h1 h2 hj hx ⟨rfl, q y h2' t2 (k1.trans k2) rfl⟩) (hs _ _)
theorem pj_tup2 {x1} {φ ψ : Value → Prop} (ha : PJ P w A env a h0 fun v _ => φ v) (hb : PJ P w A env b h0 fun v _ => ψ v)
    (hst : starEach [a, b] env = (false, eval a env) :: (false, eval b env) :: [] := by rfl) :
    PJ P w A env (.Tuple [a, b] x1 pos) h0 fun v h' => ∃ (p : Addr) (y z : Value), v = .ref p ∧ h'.get? p = some { cls := .type "tuple", data := .seq [y, z].toArray } ∧ φ y ∧ ψ z := fun s E Q k q => by
  refine wpAny_Tuple_spliced ?_
  rw [hst]
  show wpAny _ _ (spliced ((false, eval a env) :: (false, eval b env) :: [])) _ _ s
  refine Calls.spliced_cons (ha s E _ k fun y h1 t1 k1 e1 => ?_)
  refine Calls.spliced_cons (hb { s with heap := h1, toks := t1 } E _ (k.trans k1) fun z h2 t2 k2 e2 => ?_)
  refine Calls.spliced_nil ⟨(show 2 ≤ sizeLine by decide), ?_⟩
  exact q (.ref h2.objs.size) (h2.push { cls := .type "tuple", data := .seq [y, z].toArray }) t2 ((k1.trans k2).trans fun b o e => Heap.get?_push_of_some _ e) ⟨h2.objs.size, y, z, rfl, Heap.get?_push_size _ rfl, e1, e2⟩
end
/-! ### the lambda called -/
/-- one parameter, the other names captured or global -/
structure LamS1 (sc scope : Scope) (a : Str) : Prop where
  kind : scope.kind = .function
  co : scope.isCoroutine = false
  gen : scope.isGenerator = false
  par : scope.names.lookup a = some .local
  cell : ∀ y ∈ scope.names, y.2 ≠ .cell
  free : ∀ y ∈ scope.names, y.2 = .free → sc.names.lookup y.1 = some .cell ∨ sc.names.lookup y.1 = some .free
def lamS1B (sc scope : Scope) (a : Str) : Bool :=
  decide (scope.kind = .function) && !scope.isCoroutine && !scope.isGenerator && decide (scope.names.lookup a = some .local) && scope.names.all fun y => !decide (y.2 = .cell) && (!decide (y.2 = .free) || decide (sc.names.lookup y.1 = some .cell) || decide (sc.names.lookup y.1 = some .free))
theorem lamS1_by {sc scope : Scope} {a : Str} (h : lamS1B sc scope a = true) : LamS1 sc scope a := by
  unfold lamS1B at h
  simp only [Bool.and_eq_true, Bool.or_eq_true, Bool.not_eq_true', decide_eq_true_eq, decide_eq_false_iff_not, List.all_eq_true] at h
  obtain ⟨⟨⟨⟨h1, h2⟩, h3⟩, h4⟩, h5⟩ := h
  refine ⟨h1, h2, h3, h4, fun y hy => (h5 y hy).1, fun y hy e => ?_⟩
  rcases (h5 y hy).2 with (z | z) | z
  · exact absurd e z
  · exact .inl z
  · exact .inr z
section
variable {X : Cx} {pins : List (Addr × Obj)} {σ : L2.St} {H : Hp} {s : Shared}
theorem lam_turn {scope : Scope} {params : Arguments} {body : Expr} {a : Str} {A : Around} {f c' : Addr} {pm ctv : Value} {h0 h : Heap} {tk : Nat} {u : Value} {k : PyData} (L : LamS1 X.env.scope scope a)
    (hf : h0.get? f = some (PySem.W.kla_obj "<lambda>" (X.env.qual ++ "<lambda>") params body scope (L2.cloFrom X.env.cells scope.names []) pm c' ctv))
    (hc : ∃ (oc : Obj) (vs : Array Value) (t : Tok), h0.get? c' = some oc ∧ oc.data = .fields vs ∧ vs[1]? = some (.str (X.env.qual ++ "<lambda>") t))
    (hbind : bindArgs (PySem.W.kla_fn "<lambda>" (X.env.qual ++ "<lambda>") params body scope (L2.cloFrom X.env.cells scope.names []) pm (.ref c') ctv) ⟨[u], []⟩ = pure [(a, u)])
    (hd : A.depth < recursionLimit) (hn : h.NoLimit) (hk : Kp h0 h)
    (hbody : ∀ (A' : Around) (L' : Addr) (h1 : Heap), Kp h h1 → h1.Ns L' (fun y => if y = a then some u else none) → PJ X.prog X.w A' (PySem.W.envX (X.env.qual ++ "<lambda>") scope L' f (.ref c') (L2.cloFrom X.env.cells scope.names [])) body h1 fun v h' => Reads h' v k []) (E : Value → Shared → Prop) :
    wpAny (model X.prog X.w) A (call (.ref f) [u]) (PySem.W.KeyPure k { s with heap := h, toks := tk }) E { s with heap := h, toks := tk } := by
  obtain ⟨oc, vs, t, hoc, hdc, hvc⟩ := hc
  refine wpAny_call (PySem.W.kla_callFunE (s := { s with heap := h, toks := tk }) hd (hk _ _ hf) rfl L.co L.gen rfl ⟨c', oc, vs, t, rfl, hk _ _ hoc, hdc, hvc⟩ ?_)
  rw [hbind]
  refine wpAny_pure (wpAny_newFunctionEnv L.cell (fun y hy => by rw [List.mem_singleton.mp hy]; exact L.par) (fun h₁ hns hsb => ⟨hn.fresh _ hsb, ?_⟩) L.kind)
  show codeAny _ _ (.expr body (PySem.W.envX (X.env.qual ++ "<lambda>") scope h.objs.size f (.ref c') (L2.cloFrom X.env.cells scope.names []))) _ _
  have kp : Kp h h₁ := fun b o e => hsb.extBut b o (Nat.ne_of_lt (Heap.lt_size e)) (Heap.get?_push_of_some _ e)
  have hns' : h₁.Ns h.objs.size (fun y => if y = a then some u else none) := by
    have e : (fun y => if y = a then some u else none) = fun y => ([(a, u)] : List (Str × Value)).reverse.lookup y := by
      funext y
      by_cases hy : y = a
      · subst hy
        simp [List.lookup]
      · have : (y == a) = false := by simpa using hy
        simp [List.lookup, this, hy]
    rw [e]
    exact hns
  refine PySem.W.kla_codeExpr (hbody _ h.objs.size h₁ kp hns' { s with heap := h₁, toks := tk + 1 } _ _ (Kp.refl _) fun v h' tk' k' r => ?_)
  exact ⟨h', tk', rfl, kp.trans k', r⟩
theorem each_ints : ∀ {us : List Value} {ns : List Int}, IntsAre us ns → PySem.W.EachIs (fun v n => ∃ t, v = Value.int n t) us ns
  | _, _, .nil => .nil
  | _, _, .cons n t h => .cons ⟨t, rfl⟩ (each_ints h)
theorem vals_each : ∀ {us : List Value} {ns : List Int}, PySem.W.EachIs (fun v n => ∃ t, v = Value.int n t) us ns → Vals (ns.map V.int) us
  | _, _, .nil => .nil
  | _, _, .cons ⟨t, e⟩ h => .cons ⟨t, e⟩ (vals_each h)
/-- what a lambda's body gives for a number -/
def LamRd (X : Cx) (scope : Scope) (body : Expr) (a : Str) (h0 : Heap) (n : Int) (k : PyData) : Prop :=
  ∀ (A' : Around) (f c' L' : Addr) (h1 : Heap) (t : Tok), Kp h0 h1 → h1.Ns L' (fun y => if y = a then some (.int n t) else none) → PJ X.prog X.w A' (PySem.W.envX (X.env.qual ++ "<lambda>") scope L' f (.ref c') (L2.cloFrom X.env.cells scope.names [])) body h1 fun v h' => Reads h' v k []
theorem sortLam_core {scope : Scope} {params : Arguments} {body : Expr} {a : Str} {f c' l : Addr} {pm ctv : Value} {ns : List Int} {kf : Int → PyData} {b : Bool} {kw : List (Str × Value)} {j : Nat} {Q : L2.VK} (I : Inv X pins σ H s) (hr : Room j X.A) (L : LamS1 X.env.scope scope a)
    (hf : s.heap.get? f = some (PySem.W.kla_obj "<lambda>" (X.env.qual ++ "<lambda>") params body scope (L2.cloFrom X.env.cells scope.names []) pm c' ctv)) (hco : H c' = some (LamX.CodeO c' (X.env.qual ++ "<lambda>")))
    (hbind : ∀ u, bindArgs (PySem.W.kla_fn "<lambda>" (X.env.qual ++ "<lambda>") params body scope (L2.cloFrom X.env.cells scope.names []) pm (.ref c') ctv) ⟨[u], []⟩ = pure [(a, u)])
    (hs : SqL X.K H l (ns.map V.int)) (hrd : ∀ n ∈ ns, LamRd X scope body a s.heap n (kf n)) (hdp : ∀ n ∈ ns, (kf n).depth ≤ 64) (hal : PySem.W.AllAlike (ns.map kf)) (hsk : PySem.W.Sortable (ns.map kf))
    (ha1 : argsOk "sorted" ⟨[.ref l], kw⟩) (ha2 : ∀ x, argsOk "list.sort" ⟨[.ref x], kw⟩) (ht : ∀ x, Builtin.«list.sort» ⟨[.ref x], kw⟩ = PyProof.Rows.ksk_tree x (.ref f) b)
    (q : ∀ p, H p = none → Q (.ref p) (upd H p (.lst ((ns.mergeSort (PySem.W.dataLe b kf)).map V.int)))) : wpAny (model X.prog X.w) X.A (call (.builtin "sorted") [.ref l] kw) (EP X pins σ Q) X.xe s := by
  obtain ⟨its, rv, hl, hz⟩ := I.list hs
  have hi : IntsAre its ns := by simpa using rv.ints
  obtain ⟨⟨oc, vs, t, hoc, hdc, hvc⟩, _, _⟩ := I.hok c' _ hco
  have hlen : ns.length ≤ sizeLine := by
    rw [List.length_map] at hz
    exact hz
  refine PySem.W.sorted_key_data (vs := its) (bs := ns) (R := fun v n => ∃ t, v = Value.int n t) kf (by simpa using hl.isList) (each_ints hi) hal hsk hlen (fun n hn => ?_) ha1 ha2 ht (fun v n e hn h tk kp => ?_) fun out c h' tk kp _ hD hol eo => ?_
  · have := hdp n hn
    have := hr.un
    omega
  · obtain ⟨t2, rfl⟩ := e
    exact lam_turn (h0 := s.heap) L hf ⟨oc, vs, t, hoc, hdc, hvc⟩ (hbind _) (by
      have := hr.depth
      exact this) (I.nolimit.keeps kp) kp (fun A' L' h1 k1 hns => hrd n hn A' f c' L' h1 t2 (Kp.trans kp k1) hns) _
  · refine ⟨.ref (s.heap.objs.size + 1), upd H (s.heap.objs.size + 1) (.lst ((ns.mergeSort (PySem.W.dataLe b kf)).map V.int)), I.laid (t' := tk) kp (Nat.le_succ _) ⟨?_, out, c, vals_each eo, hD⟩, rfl, q _ (I.hok.fresh (Nat.le_succ _))⟩
    rw [List.length_map, List.length_mergeSort]
    exact hlen
end
end VL

namespace VL
open PySem PySem.Spec
open PyProof.Rows L2
/-! ### a lambda is made, all that stands staying in sight -/
section
variable {X : Cx} {pins : List (Addr × Obj)} {σ : L2.St} {H : Hp} {s : Shared}
/-- the heap behind the making of a code object: the table at T, longer; the code object at c -/
def madeH (H : Hp) (T c : Addr) (q : Str) (zs : Array Value) : Hp := upd (upd H T (.tbl zs)) c (LamX.CodeO c q)
theorem madeH_ext {TT : List (Addr × Str)} {T c : Addr} {q : Str} {ps : Array Value} {pos : Pos} (hT : LamX.Tabs TT H) (hu : ∀ p ∈ TT, p.1 = T → p.2 = q) (e : H T = some (.tbl ps)) (hc : H c = none) (ok : TriplesOk ps.toList)
    (hall : ∀ (pos : Pos) (cv : Value), codeAmong pos ps.toList = some cv → ∃ c, cv = .ref c ∧ H c = some (LamX.CodeO c q)) : ExtT TT H (madeH H T c q (ps ++ #[rawInt pos.line, rawInt pos.col, .ref c])) := by
  have ne : T ≠ c := ne_of_none e hc
  have old : ∀ b o, H b = some o → NT o → madeH H T c q (ps ++ #[rawInt pos.line, rawInt pos.col, .ref c]) b = some o := fun b o eb nt => by
    have h1 : b ≠ c := ne_of_none eb hc
    have h2 : b ≠ T := fun z => by
      rw [z, e] at eb
      cases eb
      exact nt _ rfl
    unfold madeH
    rw [upd_ne h1, upd_ne h2, eb]
  have tab : madeH H T c q (ps ++ #[rawInt pos.line, rawInt pos.col, .ref c]) T = some (.tbl (ps ++ #[rawInt pos.line, rawInt pos.col, .ref c])) := by
    unfold madeH
    rw [upd_ne ne, upd_same]
  have new : madeH H T c q (ps ++ #[rawInt pos.line, rawInt pos.col, .ref c]) c = some (LamX.CodeO c q) := upd_same
  have else_ : ∀ b, b ≠ T → b ≠ c → madeH H T c q (ps ++ #[rawInt pos.line, rawInt pos.col, .ref c]) b = H b := fun b h1 h2 => by
    unfold madeH
    rw [upd_ne h2, upd_ne h1]
  refine ⟨old, fun b hb => ?_, fun _ p hp => ?_, fun b hb => ?_⟩
  · by_cases h1 : b = T
    · rw [h1, tab]
      exact fun z => nomatch z
    · by_cases h2 : b = c
      · rw [h2, new]
        exact fun z => nomatch z
      · rw [else_ b h1 h2]
        exact hb
  · by_cases h1 : p.1 = T
    · rw [hu p hp h1, h1]
      refine ⟨_, tab, ?_, fun p' cv hcv => ?_⟩
      · rw [show (ps ++ #[rawInt pos.line, rawInt pos.col, Value.ref c]).toList = ps.toList ++ [rawInt pos.line, rawInt pos.col, .ref c] by simp]
        exact PySem.TriplesOk_snoc _ _ _ _ ok
      · rw [show (ps ++ #[rawInt pos.line, rawInt pos.col, Value.ref c]).toList = ps.toList ++ [rawInt pos.line, rawInt pos.col, .ref c] by simp] at hcv
        rcases LamX.among_app _ ok hcv with z | z
        · obtain ⟨d, z1, z2⟩ := hall p' cv z
          exact ⟨d, z1, old _ _ z2 LamX.codeO_ne⟩
        · exact ⟨c, z, new⟩
    · obtain ⟨qs, z1, z2, z3⟩ := hT p hp
      refine ⟨qs, ?_, z2, fun p' cv hcv => ?_⟩
      · rw [else_ _ h1 (ne_of_none z1 hc)]
        exact z1
      · obtain ⟨d, y1, y2⟩ := z3 p' cv hcv
        exact ⟨d, y1, old _ _ y2 LamX.codeO_ne⟩
  · obtain ⟨o, z1, z2⟩ := hb
    by_cases h1 : b = T
    · rw [h1]
      exact ⟨_, tab, fun _ z => nomatch z⟩
    · have h2 : b ≠ c := ne_of_none z1 hc
      exact ⟨o, by rw [else_ b h1 h2]; exact z1, z2⟩
theorem lam_make3 {TT : List (Addr × Str)} {c T : Addr} {params : Arguments} {body : Expr} {scope : Scope} {pos : Pos} {E : Value → Shared → Prop} {Q : Value → Shared → Prop} (I : Inv X pins σ H s) (TB : LamX.TabB X.base X.mg c T) (hcode : X.env.code = .ref c)
    (hmem : (T, X.env.qual ++ "<lambda>") ∈ TT) (hu : ∀ p ∈ TT, p.1 = T → p.2 = X.env.qual ++ "<lambda>") (hT : LamX.Tabs TT H) (hdef : defaultsOf params X.env = ([], [])) (hfree : ∀ y ∈ scope.names, y.2 = .free → ∃ c, X.env.cells.lookup y.1 = some c)
    (h : ∀ (f c' : Addr) (pm ctv : Value) (H1 : Hp) (s' : Shared), Inv X pins σ H1 s' → ExtT TT H H1 → s'.heap.get? f = some (PySem.W.kla_obj "<lambda>" (X.env.qual ++ "<lambda>") params body scope (L2.cloFrom X.env.cells scope.names []) pm c' ctv) →
      H1 c' = some (LamX.CodeO c' (X.env.qual ++ "<lambda>")) → Q (.ref f) s') : wpAny (model X.prog X.w) X.A (eval (.Lambda params body scope pos) X.env) Q E s := by
  obtain ⟨ps, e, ok, hall⟩ := hT _ hmem
  have b1 : s.heap.BuiltinsAt X.mg T := TB.bm.keeps I.bk
  have b2 : s.heap.get? T = some { cls := .none, data := .fields ps } := I.hok T _ e
  have glob := I.mod.glob.keeps I.bk
  have head := TB.code.keeps I.bk
  refine PySem.W.kla_eval hdef ?_
  cases found : codeAmong pos ps.toList with
  | some cv =>
    obtain ⟨c', rfl, hco⟩ := hall pos cv found
    exact PySem.W.kla_makeFunctionHit (mg := X.mg) (c := c) (P := T) (ps := ps) (closure_ok hfree) I.ok.glob glob hcode head b2 ok found b1 fun ctv g tk keep size =>
      h g.objs.size c' _ ctv H _ (I.kept fun b o eb => Heap.get?_push_of_some _ (keep b o eb)) .refl (Heap.get?_push_size _ rfl) hco
  | none =>
    refine PySem.W.kla_makeFunction (mg := X.mg) (c := c) (P := T) (ps := ps) (closure_ok hfree) I.ok.glob glob hcode head b2 ok found TB.gP b1 fun c' ctv g tk keep ge lt rec tab => ?_
    obtain ⟨c2, oc, vs, t, ec, hoc, hd, hv⟩ := rec
    cases ec
    exact h g.objs.size c' _ ctv (madeH H T c' (X.env.qual ++ "<lambda>") (ps ++ #[rawInt pos.line, rawInt pos.col, .ref c'])) _
      (LamX.inv_table (t' := tk) I e (fun b o hb eb => Heap.get?_push_of_some _ (keep b o hb eb)) (Heap.get?_push_of_some _ tab) ge ⟨oc, vs, t, Heap.get?_push_of_some _ hoc, hd, hv⟩)
      (madeH_ext hT hu e (I.hok.fresh ge) ok hall) (Heap.get?_push_size _ rfl) upd_same
end
end VL

namespace VL
open PySem PySem.Spec
open PyProof.Rows L2
/-! ### sorted(xs, key=lambda n: ..), of numbers -/
section
variable {X : Cx}
/-- what the key of a number is read as, where the slots hold σ and the heap H -/
abbrev KD := L2.St → Hp → Int → PyData → Prop
def KdOk (X : Cx) (scope : Scope) (body : Expr) (a : Str) (kd : KD) : Prop := ∀ (pins : List (Addr × Obj)) (s : Shared) (σ : L2.St) (H : Hp), Inv X pins σ H s → ∀ n d, kd σ H n d → LamRd X scope body a s.heap n d
def kSortLam (K : PySem.W.Frag) (T : List (Addr × Str)) (kd : KD) (b : Bool) (σ : L2.St) (Q : L2.VK) : L2.VK := fun x H1 => LamX.Tabs T H1 ∧ ∀ H2, ExtT T H1 H2 → ∃ (l : Addr) (ns : List Int) (kf : Int → PyData), x = .ref l ∧ SqL K H2 l (ns.map V.int) ∧
  (∀ n ∈ ns, kd σ H2 n (kf n)) ∧ (∀ n ∈ ns, (kf n).depth ≤ 64) ∧ PySem.W.AllAlike (ns.map kf) ∧ PySem.W.Sortable (ns.map kf) ∧ ∀ p, H2 p = none → Q (.ref p) (upd H2 p (.lst ((ns.mergeSort (PySem.W.dataLe b kf)).map V.int)))
def tSortLam (K : PySem.W.Frag) (T : List (Addr × Str)) (kd : KD) (b : Bool) (te : TE) : TE := fun σ H Q => te σ H (kSortLam K T kd b σ Q)
/-- told of one value -/
def one1 (Q : L2.VK) : List V → Hp → Prop
  | [x], H => Q x H
  | _, _ => False
theorem one1_of {Q : L2.VK} {vs : List V} {H : Hp} (h : one1 Q vs H) : ∃ x, vs = [x] ∧ Q x H := by
  match vs, h with
  | [x], h => exact ⟨x, rfl, h⟩
variable {T : List (Addr × Str)} {c P : Addr} {params : Arguments} {body : Expr} {scope : Scope} {a : Str} {kd : KD} {e : Expr} {te : TE} {p lpos kp pos : Pos} {j : Nat}
theorem pe_sortLam (hr : Room j X.A) (hg : Gl X "sorted") (hm : X.mg "sorted" = none) (TB : LamX.TabB X.base X.mg c P) (hcode : X.env.code = .ref c) (hmT : (P, X.env.qual ++ "<lambda>") ∈ T) (hu : ∀ p ∈ T, p.1 = P → p.2 = X.env.qual ++ "<lambda>")
    (L : LamS1 X.env.scope scope a) (hdef : defaultsOf params X.env = ([], []))
    (hbind : ∀ (q : Str) (cl : List (Str × Addr)) (pm cv ctv u : Value), bindArgs (PySem.W.kla_fn "<lambda>" q params body scope cl pm cv ctv) ⟨[u], []⟩ = pure [(a, u)]) (hkd : KdOk X scope body a kd) (he : PE X e te)
    (hst : starEach [e] X.env = (false, eval e X.env) :: starEach [] X.env := by rfl) (hbt : backTo pos (starEach [e] X.env) = (false, eval e X.env) :: backTo pos (starEach [] X.env) := by rfl) (hpl : (backTo pos (starEach [e] X.env)).any (·.1) = false := by rfl)
    (hall : (backToKw pos (keywordEach [⟨some "key", .Lambda params body scope lpos, kp⟩] X.env)).all (·.1.isSome) = true := by rfl) (hnone : (backToKw pos (keywordEach [⟨some "key", .Lambda params body scope lpos, kp⟩] X.env)).any (·.1.isNone) = false := by rfl)
    (hks : (backToKw pos (keywordEach [⟨some "key", .Lambda params body scope lpos, kp⟩] X.env)).filterMap (·.1) = [Str.ofString "key"] := by rfl) :
    PE X (.Call (.Name "sorted" p) [e] [⟨some "key", .Lambda params body scope lpos, kp⟩] pos) (tSortLam X.K T kd false te) := by
  refine ⟨fun pins s σ H Q I h => ?_⟩
  refine wpAny_Call_Name_kw (ld_blt I hg hm (show bootBuiltins "sorted" = some (.builtin "sorted") by decide +kernel) ?_)
  refine PyProof.Rows.callWith_kw (thn ((pa_cons he pa_nil hst).run pos pins s σ H (one1 (kSortLam X.K T kd false σ Q)) I h) fun us s1 ⟨vs, H1, I1, r1, q0⟩ => ?_) hbt hpl hall hnone
  obtain ⟨x, rfl, hT, q1⟩ := one1_of q0
  rw [hks]
  show wpAny _ _ (evalAll ((do let v ← eval (.Lambda params body scope lpos) X.env; standAt pos; pure v) :: (backToKw pos (keywordEach [] X.env)).map (·.2))) _ _ s1
  refine wpAny_evalAll_cons (wpAny_bind (lam_make3 I1 TB hcode hmT hu hT hdef (fun y hy e => ?_) fun f c' pm' ctv H2 s2 I2 eN hf hco => ?_))
  · rcases L.free y hy e with k | k
    · exact I1.ok.has _ (.inl k)
    · exact I1.ok.has _ (.inr k)
  · refine wpAny_bind (wpAny_standAt (wpAny_pure (wpAny_evalAll_nil ?_)))
    obtain ⟨l, ns, kf, rfl, hs, h1, h2, h3, h4, q⟩ := q1 H2 eN
    cases r1 with
    | cons r rr =>
      cases rr
      cases r
      exact sortLam_core (b := false) I2 hr L hf hco (fun u => hbind _ _ _ _ _ u) hs (fun n hn => hkd pins s2 σ H2 I2 n _ (h1 n hn)) h2 h3 h4 (PyProof.Rows.ksk_s1 _ _) (fun _ => PyProof.Rows.ksk_l1 _ _) (fun _ => PyProof.Rows.ksk_t1 _ _) q
theorem pe_sortLamR {jb : Nat} {pb kp2 : Pos} (hr : Room j X.A) (hg : Gl X "sorted") (hm : X.mg "sorted" = none) (TB : LamX.TabB X.base X.mg c P) (hcode : X.env.code = .ref c) (hmT : (P, X.env.qual ++ "<lambda>") ∈ T) (hu : ∀ p ∈ T, p.1 = P → p.2 = X.env.qual ++ "<lambda>")
    (L : LamS1 X.env.scope scope a) (hdef : defaultsOf params X.env = ([], []))
    (hbind : ∀ (q : Str) (cl : List (Str × Addr)) (pm cv ctv u : Value), bindArgs (PySem.W.kla_fn "<lambda>" q params body scope cl pm cv ctv) ⟨[u], []⟩ = pure [(a, u)]) (hkd : KdOk X scope body a kd) (he : PE X e te)
    (hst : starEach [e] X.env = (false, eval e X.env) :: starEach [] X.env := by rfl) (hbt : backTo pos (starEach [e] X.env) = (false, eval e X.env) :: backTo pos (starEach [] X.env) := by rfl) (hpl : (backTo pos (starEach [e] X.env)).any (·.1) = false := by rfl)
    (hall : (backToKw pos (keywordEach [⟨some "key", .Lambda params body scope lpos, kp⟩, ⟨some "reverse", .Constant (.bool true) jb pb, kp2⟩] X.env)).all (·.1.isSome) = true := by rfl) (hnone : (backToKw pos (keywordEach [⟨some "key", .Lambda params body scope lpos, kp⟩, ⟨some "reverse", .Constant (.bool true) jb pb, kp2⟩] X.env)).any (·.1.isNone) = false := by rfl)
    (hks : (backToKw pos (keywordEach [⟨some "key", .Lambda params body scope lpos, kp⟩, ⟨some "reverse", .Constant (.bool true) jb pb, kp2⟩] X.env)).filterMap (·.1) = [Str.ofString "key", Str.ofString "reverse"] := by rfl) :
    PE X (.Call (.Name "sorted" p) [e] [⟨some "key", .Lambda params body scope lpos, kp⟩, ⟨some "reverse", .Constant (.bool true) jb pb, kp2⟩] pos) (tSortLam X.K T kd true te) := by
  refine ⟨fun pins s σ H Q I h => ?_⟩
  refine wpAny_Call_Name_kw (ld_blt I hg hm (show bootBuiltins "sorted" = some (.builtin "sorted") by decide +kernel) ?_)
  refine PyProof.Rows.callWith_kw (thn ((pa_cons he pa_nil hst).run pos pins s σ H (one1 (kSortLam X.K T kd true σ Q)) I h) fun us s1 ⟨vs, H1, I1, r1, q0⟩ => ?_) hbt hpl hall hnone
  obtain ⟨x, rfl, hT, q1⟩ := one1_of q0
  rw [hks]
  show wpAny _ _ (evalAll ((do let v ← eval (.Lambda params body scope lpos) X.env; standAt pos; pure v) :: (do let v ← eval (.Constant (.bool true) jb pb) X.env; standAt pos; pure v) :: (backToKw pos (keywordEach [] X.env)).map (·.2))) _ _ s1
  refine wpAny_evalAll_cons (wpAny_bind (lam_make3 I1 TB hcode hmT hu hT hdef (fun y hy e => ?_) fun f c' pm' ctv H2 s2 I2 eN hf hco => ?_))
  · rcases L.free y hy e with k | k
    · exact I1.ok.has _ (.inl k)
    · exact I1.ok.has _ (.inr k)
  · refine wpAny_bind (wpAny_standAt (wpAny_pure (wpAny_evalAll_cons (wpAny_bind (Constant_bool (wpAny_bind (wpAny_standAt (wpAny_pure (wpAny_evalAll_nil ?_)))))))))
    obtain ⟨l, ns, kf, rfl, hs, h1, h2, h3, h4, q⟩ := q1 H2 eN
    cases r1 with
    | cons r rr =>
      cases rr
      cases r
      exact sortLam_core (b := true) I2 hr L hf hco (fun u => hbind _ _ _ _ _ u) hs (fun n hn => hkd pins s2 σ H2 I2 n _ (h1 n hn)) h2 h3 h4 (PyProof.Rows.ksk_s2 _ _ _) (fun _ => PyProof.Rows.ksk_l2 _ _ _) (fun _ => PyProof.Rows.ksk_t2 _ _ _) q
/-- a captured name, in the lambda's frame -/
theorem cap_cell {pins : List (Addr × Obj)} {s : Shared} {σ : L2.St} {H : Hp} (I : Inv X pins σ H s) (L : LamS1 X.env.scope scope a) {i : Nat} {x : Str} {v : V} (hN : X.N[i]? = some x) (hx : scope.names.lookup x = some .free) (e : σ[i]? = some (some v)) :
    ∃ (cc : Addr) (u : Value), (L2.cloFrom X.env.cells scope.names []).lookup x = some cc ∧ s.heap.IsCell cc (some u) ∧ RelV v u := by
  have hmem := PySem.mem_of_lookup hx
  have hvis : X.env.scope.names.lookup x = some .cell ∨ X.env.scope.names.lookup x = some .free := L.free _ hmem rfl
  have hfree : ∃ c, X.env.cells.lookup x = some c := by
    rcases hvis with k | k
    · exact I.ok.has _ (.inl k)
    · exact I.ok.has _ (.inr k)
  obtain ⟨m, hn, hl⟩ := I.loc
  obtain ⟨u, r, q⟩ := hl i x v hN e (.inr hvis)
  have hcl : ∃ c, (L2.cloFrom X.env.cells scope.names []).lookup x = some c := L2.mem_lookup (L2.cloFrom_has (cells := X.env.cells) (acc := []) hmem)
  obtain ⟨c2, h2⟩ := hcl
  have c1 : X.env.cells.lookup x = some c2 := by
    rcases L2.cloFrom_mem (PySem.mem_of_lookup h2) with hm | ⟨h3, h4⟩
    · cases hm
    · obtain ⟨c3, h5⟩ := hfree
      have e2 : c2 = c3 := by
        rw [h4, h5] <;> rfl
      rw [e2]
      exact h5
  rcases q with ⟨k, _⟩ | ⟨_, c3, h5, h6⟩
  · have k : X.env.scope.names.lookup x = some .local := k
    rcases hvis with z | z <;> rw [k] at z <;> cases z
  · rw [c1] at h5
    cases h5
    exact ⟨c2, u, h2, h6, r⟩
/-- lambda a: x[a] -/
def kdAt (K : PySem.W.Frag) (i : Nat) : KD := fun σ H n d => ∃ (l : Addr) (ms : List V) (m : Int), σ[i]? = some (some (.ref l)) ∧ SqL K H l ms ∧ 0 ≤ n ∧ ms[n.toNat]? = some (.int m) ∧ d = .int m
theorem kd_at {i : Nat} {x : Str} {px pa pos : Pos} (L : LamS1 X.env.scope scope a) (hN : X.N[i]? = some x) (hx : scope.names.lookup x = some .free) (hd1 : (x == ("__debug__" : Str)) = false := by decide) (hd2 : (x == ("__classdict__" : Str)) = false := by decide) (hd3 : (a == ("__debug__" : Str)) = false := by decide) :
    KdOk X scope (.Subscript (.Name x px) (.Name a pa) pos) a (kdAt X.K i) := by
  intro pins s σ H I n d hk A' f c' L' h1 t kp hns
  obtain ⟨l, ms, m, e1, hs, h0, e2, rfl⟩ := hk
  obtain ⟨cc, u, h2, ⟨o, ho, hd⟩, r⟩ := cap_cell I L hN hx e1
  obtain rfl : u = Value.ref l := r
  obtain ⟨its, rv, hl, hz⟩ := I.list hs
  obtain ⟨w, ew, rw'⟩ := rv.get e2
  obtain ⟨t2, rfl⟩ := rw'
  have hlen : n < ms.length := by
    have := (List.getElem?_eq_some_iff.mp e2).1
    omega
  have h16 := line63
  have := pj_ixL (P := X.prog) (w := X.w) (A := A') (pos := pos) (h0 := h1) (p := l) (its := its.toArray) (i := n) (y := .int m t2) (pj_free (pos := px) (env := PySem.W.envX (X.env.qual ++ "<lambda>") scope L' f (.ref c') (L2.cloFrom X.env.cells scope.names [])) L.kind hx h2 ⟨o, kp _ _ ho, hd⟩ hd1 hd2)
    (fun s E Q k q => pj_loc (env := PySem.W.envX (X.env.qual ++ "<lambda>") scope L' f (.ref c') (L2.cloFrom X.env.cells scope.names [])) (u := .int n t) (pos := pa) L.kind L.par hns (by simp) hd3 s E Q k fun v h' tk k2 e => q v h' tk k2 ⟨t, e⟩)
    (by
      obtain ⟨o2, ho2, r2⟩ := hl.isList
      exact ⟨o2, kp _ _ ho2, r2⟩) h0 (by omega) (by simpa using ew) (fun _ _ => rfl)
  intro s E Q k q
  exact this s E Q k fun v h' tk k2 e => q v h' tk k2 (by rw [e]; exact .int m t2)
/-- lambda a: (x[a][1], a) -/
def kdPair (K : PySem.W.Frag) (i : Nat) : KD := fun σ H n d => ∃ (l r : Addr) (ms ys : List V) (m : Int), σ[i]? = some (some (.ref l)) ∧ SqT K H l ms ∧ 0 ≤ n ∧ ms[n.toNat]? = some (.ref r) ∧ SqT K H r ys ∧ ys[1]? = some (.int m) ∧ d = .tuple [.int m, .int n]
theorem kd_pair {i : Nat} {x : Str} {k1 x1 : _} {px pa p1 p2 p3 p4 pos : Pos} (L : LamS1 X.env.scope scope a) (hN : X.N[i]? = some x) (hx : scope.names.lookup x = some .free) (hd1 : (x == ("__debug__" : Str)) = false := by decide) (hd2 : (x == ("__classdict__" : Str)) = false := by decide) (hd3 : (a == ("__debug__" : Str)) = false := by decide)
    (hst : ∀ env : Env, starEach [.Subscript (.Subscript (.Name x px) (.Name a pa) p1) (.Constant (.int 1) k1 p2) p3, .Name a p4] env = (false, eval (.Subscript (.Subscript (.Name x px) (.Name a pa) p1) (.Constant (.int 1) k1 p2) p3) env) :: (false, eval (.Name a p4) env) :: [] := by intro _; rfl) :
    KdOk X scope (.Tuple [.Subscript (.Subscript (.Name x px) (.Name a pa) p1) (.Constant (.int 1) k1 p2) p3, .Name a p4] x1 pos) a (kdPair X.K i) := by
  intro pins s σ H I n d hk A' f c' L' h1 t kp hns
  obtain ⟨l, r, ms, ys, m, e1, hs, h0, e2, hs2, e3, rfl⟩ := hk
  obtain ⟨cc, u, h2, ⟨o, ho, hd⟩, ru⟩ := cap_cell I L hN hx e1
  obtain rfl : u = Value.ref l := ru
  obtain ⟨its, rv, pl, hz⟩ := I.tuple hs
  obtain ⟨its2, rv2, pl2, hz2⟩ := I.tuple hs2
  obtain ⟨w, ew, rw'⟩ := rv.get e2
  obtain rfl : w = Value.ref r := rw'
  obtain ⟨w2, ew2, rw2⟩ := rv2.get e3
  obtain ⟨t2, rfl⟩ := rw2
  have hl1 := rv.length
  have hl2 := rv2.length
  have hlen : n < ms.length := by
    have := (List.getElem?_eq_some_iff.mp e2).1
    omega
  have hlen2 : 1 < ys.length := (List.getElem?_eq_some_iff.mp e3).1
  have h16 := line63
  have keepT : ∀ {q : Addr} {zs : List Value}, IsTup s.heap q zs.toArray → IsTup h1 q zs.toArray := fun {q zs} ⟨o2, ho2, r2⟩ => ⟨o2, kp _ _ ho2, r2⟩
  have loc : ∀ p0 : Pos, PJ X.prog X.w A' (PySem.W.envX (X.env.qual ++ "<lambda>") scope L' f (.ref c') (L2.cloFrom X.env.cells scope.names [])) (.Name a p0) h1 fun v _ => ∃ t, v = .int n t := fun p0 s E Q k q =>
    pj_loc (env := PySem.W.envX (X.env.qual ++ "<lambda>") scope L' f (.ref c') (L2.cloFrom X.env.cells scope.names [])) (u := .int n t) (pos := p0) L.kind L.par hns (by simp) hd3 s E Q k fun v h' tk k2 e => q v h' tk k2 ⟨t, e⟩
  have q1 := pj_ixT (P := X.prog) (w := X.w) (A := A') (pos := p1) (h0 := h1) (p := l) (its := its.toArray) (i := n) (j := n.toNat) (y := .ref r) (pj_free (pos := px) (env := PySem.W.envX (X.env.qual ++ "<lambda>") scope L' f (.ref c') (L2.cloFrom X.env.cells scope.names [])) L.kind hx h2 ⟨o, kp _ _ ho, hd⟩ hd1 hd2)
    (loc pa) (keepT pl) (by omega) (by omega) (seqIndex_of h0 (by rw [List.size_toArray]; omega)) (by simpa using ew) (fun _ _ => rfl)
  have q2 := pj_ixT (P := X.prog) (w := X.w) (A := A') (pos := p3) (h0 := h1) (p := r) (its := its2.toArray) (i := 1) (j := 1) (y := .int m t2) q1 (pj_int (j := k1) (pos := p2)) (keepT pl2) (by decide) (by decide) (seqIndex_of (by decide) (by rw [List.size_toArray]; omega)) (by simpa using ew2) (fun _ _ => rfl)
  have q3 := pj_tup2 (x1 := x1) (pos := pos) (φ := fun v => v = .int m t2) (ψ := fun v => ∃ t, v = .int n t) q2 (loc p4) (hst _)
  intro s E Q k q
  refine q3 s E Q k fun v h' tk k2 e => q v h' tk k2 ?_
  obtain ⟨p0, y, z, rfl, hp, rfl, t3, rfl⟩ := e
  exact .tuple hp rfl rfl (.cons (.int m t2) (.cons (.int n t3) .nil))
end
end VL

namespace VL
open PySem PySem.Spec
open PyProof.Rows L2
/-! ### sorted by a lambda, by data -/
def keyList (en : En) (i : Nat) : Option (List D) := match en[i]? with
  | some (.va (.list ms)) => some ms
  | some (.ow ms) => some ms
  | _ => none
def intAt (ms : List D) (n : Int) : Option Int := if 0 ≤ n then (match ms[n.toNat]? with
  | some (.int m) => some m
  | _ => none) else none
def sortBy (rev : Bool) (k : Int → Int) (ns : List Int) : List Int := if rev then ns.mergeSort (fun a b => decide (k b ≤ k a)) else ns.mergeSort (fun a b => decide (k a ≤ k b))
def lSortAt (i : Nat) (rev : Bool) (f : FE) : FL := fun en => match f en with
  | some (.list ds, en1) => match intsOf ds with
    | some ns => match keyList en1 i with
      | some ms => if (ns.all fun n => (intAt ms n).isSome) = true then some ((sortBy rev (fun n => (intAt ms n).getD 0) ns).map .int, en1) else none
      | none => none
    | none => none
  | _ => none
/-- the second item of the n-th -/
def oneOf (ys : List D) : Option Int := match ys[(1 : Nat)]? with
  | some (.int m) => some m
  | _ => none
def dayOf (ms : List D) (n : Int) : Option Int := if 0 ≤ n then (match ms[n.toNat]? with
  | some (.tuple ys) => oneOf ys
  | _ => none) else none
def sortDay (k : Int → Int) (ns : List Int) : List Int := ns.mergeSort fun a b => decide (k a < k b ∨ (k a = k b ∧ a ≤ b))
def lSortDay (i : Nat) (f : FE) : FL := fun en => match f en with
  | some (.list ds, en1) => match intsOf ds with
    | some ns => match en1[i]? with
      | some (.va (.tuple ms)) => if (ns.all fun n => (dayOf ms n).isSome) = true then some ((sortDay (fun n => (dayOf ms n).getD 0) ns).map .int, en1) else none
      | _ => none
    | none => none
  | _ => none
theorem intAt_some {ms : List D} {n : Int} (h : (intAt ms n).isSome = true) : 0 ≤ n ∧ ms[n.toNat]? = some (.int ((intAt ms n).getD 0)) := by
  unfold intAt at h ⊢
  split at h
  · rename_i h0
    rw [if_pos h0]
    split at h
    · rename_i m e
      simp only [e]
      exact ⟨h0, rfl⟩
    · cases h
  · cases h
theorem dayOf_some {ms : List D} {n : Int} (h : (dayOf ms n).isSome = true) : 0 ≤ n ∧ ∃ ys, ms[n.toNat]? = some (.tuple ys) ∧ ys[(1 : Nat)]? = some (.int ((dayOf ms n).getD 0)) := by
  unfold dayOf at h ⊢
  split at h
  · rename_i h0
    rw [if_pos h0]
    split at h
    · rename_i ys e
      unfold oneOf at h
      split at h
      · rename_i m e2
        refine ⟨h0, ys, e, ?_⟩
        simp only [e, oneOf, e2]
        rfl
      · cases h
    · cases h
  · cases h
section
variable {X : Cx} {P : Pl} {c T : Addr} {params : Arguments} {scope : Scope} {a x : Str} {e : Expr} {f : FE} {p lpos kp pos : Pos} {j i : Nat} {px pa pb : Pos}
theorem keys_ok {Bf : Bk} {ow : Nat → Option Addr} {en : En} {σ : L2.St} {H : Hp} (k : Ok P Bf ow en σ H) {ms : List D} (h : keyList en i = some ms) : ∃ (l : Addr) (xs : List V), σ[i]? = some (some (.ref l)) ∧ Rd H l (.lst xs) ∧ RpL H (blk Bf ow) ms xs := by
  unfold keyList at h
  split at h <;> first | cases h | skip
  · rename_i ms' e
    obtain ⟨v, h1, h2⟩ := k.hva i _ e
    cases h2 with
    | lst n1 d1 s1 => exact ⟨_, _, h1, d1, s1⟩
  · rename_i ms' e
    obtain ⟨l, xs, h1, h2, h3, h4⟩ := k.hown i _ e
    exact ⟨l, xs, h2, .inl h3, h4⟩
theorem at_reads {rev : Bool} (σ : L2.St) (H : Hp) (Q : L2.VK) (h : tvF P (lSortAt i rev f) σ H Q) : tSortLam X.K P.tb (kdAt X.K i) rev (tv P f) σ H Q := by
  obtain ⟨Bf, ow, en, k, d, en', hf, q⟩ := h
  unfold lSortAt at hf
  split at hf <;> first | cases hf | skip
  rename_i ds en1 h1
  split at hf <;> first | cases hf | skip
  rename_i ns h2
  split at hf <;> first | cases hf | skip
  rename_i ms h3
  split at hf <;> first | cases hf | skip
  rename_i h4
  have := intsOf_eq h2
  subst this
  refine ⟨Bf, ow, en, k, _, _, h1, fun v ow1 H1 k1 r1 p1 => ⟨k1.htab, fun H2 ex => ?_⟩⟩
  cases p1 with
  | lst n1 d1 s1 =>
    have := s1.ints
    subst this
    have k2 := k1.extT ex
    obtain ⟨l, xs, g1, g2, g3⟩ := keys_ok k2 h3
    have hk : ∀ n ∈ ns, kdAt X.K i σ H2 n (.int ((intAt ms n).getD 0)) := fun n hn => by
      obtain ⟨w0, w1⟩ := intAt_some (List.all_eq_true.mp h4 n hn)
      obtain ⟨v, w2, w3⟩ := g3.get w1
      cases w3
      exact ⟨l, xs, _, g1, .inl g2, w0, w2, rfl⟩
    refine ⟨_, ns, fun n => .int ((intAt ms n).getD 0), rfl, .inl (Rd.keep d1 fun o e t => ex.keep _ o e t), hk, fun n _ => by simp [PyData.depth], PySem.W.AllAlike.of fun _ _ => by simp [PySem.W.alike], PySem.W.Sortable.others fun _ => ⟨(fun z => nomatch z), fun _ z => nomatch z⟩, fun p hp => ?_⟩
    have e2 : ns.mergeSort (PySem.W.dataLe rev fun n => .int ((intAt ms n).getD 0)) = sortBy rev (fun n => (intAt ms n).getD 0) ns := by
      unfold sortBy
      cases rev with
      | false => rw [PySem.W.dataLe_int]; rfl
      | true => rw [PySem.W.dataGe_int]; rfl
    rw [e2]
    exact fresh_of (f := Q) k2 (r1.trans ex.rel) hp (RpL.ofInts _) q
theorem vf_sortAt (hr : Room j X.A) (hg : Gl X "sorted") (hm : X.mg "sorted" = none) (TB : LamX.TabB X.base X.mg c T) (hcode : X.env.code = .ref c) (hmT : (T, X.env.qual ++ "<lambda>") ∈ P.tb) (hu : ∀ p ∈ P.tb, p.1 = T → p.2 = X.env.qual ++ "<lambda>")
    (L : LamS1 X.env.scope scope a) (hdef : defaultsOf params X.env = ([], []))
    (hbind : ∀ (q : Str) (cl : List (Str × Addr)) (pm cv ctv u : Value), bindArgs (PySem.W.kla_fn "<lambda>" q params (.Subscript (.Name x px) (.Name a pa) pb) scope cl pm cv ctv) ⟨[u], []⟩ = pure [(a, u)]) (hN : X.N[i]? = some x) (hx : scope.names.lookup x = some .free) (he : VE X P e f)
    (hd1 : (x == ("__debug__" : Str)) = false := by decide) (hd2 : (x == ("__classdict__" : Str)) = false := by decide) (hd3 : (a == ("__debug__" : Str)) = false := by decide)
    (hst : starEach [e] X.env = (false, eval e X.env) :: starEach [] X.env := by rfl) (hbt : backTo pos (starEach [e] X.env) = (false, eval e X.env) :: backTo pos (starEach [] X.env) := by rfl) (hpl : (backTo pos (starEach [e] X.env)).any (·.1) = false := by rfl)
    (hall : (backToKw pos (keywordEach [⟨some "key", .Lambda params (.Subscript (.Name x px) (.Name a pa) pb) scope lpos, kp⟩] X.env)).all (·.1.isSome) = true := by rfl) (hnone : (backToKw pos (keywordEach [⟨some "key", .Lambda params (.Subscript (.Name x px) (.Name a pa) pb) scope lpos, kp⟩] X.env)).any (·.1.isNone) = false := by rfl)
    (hks : (backToKw pos (keywordEach [⟨some "key", .Lambda params (.Subscript (.Name x px) (.Name a pa) pb) scope lpos, kp⟩] X.env)).filterMap (·.1) = [Str.ofString "key"] := by rfl) :
    VF X P (.Call (.Name "sorted" p) [e] [⟨some "key", .Lambda params (.Subscript (.Name x px) (.Name a pa) pb) scope lpos, kp⟩] pos) (lSortAt i false f) :=
  PE.weak (pe_sortLam hr hg hm TB hcode hmT hu L hdef hbind (kd_at L hN hx hd1 hd2 hd3) he hst hbt hpl hall hnone hks) at_reads
theorem vf_sortAtR {jb : Nat} {pc kp2 : Pos} (hr : Room j X.A) (hg : Gl X "sorted") (hm : X.mg "sorted" = none) (TB : LamX.TabB X.base X.mg c T) (hcode : X.env.code = .ref c) (hmT : (T, X.env.qual ++ "<lambda>") ∈ P.tb) (hu : ∀ p ∈ P.tb, p.1 = T → p.2 = X.env.qual ++ "<lambda>")
    (L : LamS1 X.env.scope scope a) (hdef : defaultsOf params X.env = ([], []))
    (hbind : ∀ (q : Str) (cl : List (Str × Addr)) (pm cv ctv u : Value), bindArgs (PySem.W.kla_fn "<lambda>" q params (.Subscript (.Name x px) (.Name a pa) pb) scope cl pm cv ctv) ⟨[u], []⟩ = pure [(a, u)]) (hN : X.N[i]? = some x) (hx : scope.names.lookup x = some .free) (he : VE X P e f)
    (hd1 : (x == ("__debug__" : Str)) = false := by decide) (hd2 : (x == ("__classdict__" : Str)) = false := by decide) (hd3 : (a == ("__debug__" : Str)) = false := by decide)
    (hst : starEach [e] X.env = (false, eval e X.env) :: starEach [] X.env := by rfl) (hbt : backTo pos (starEach [e] X.env) = (false, eval e X.env) :: backTo pos (starEach [] X.env) := by rfl) (hpl : (backTo pos (starEach [e] X.env)).any (·.1) = false := by rfl)
    (hall : (backToKw pos (keywordEach [⟨some "key", .Lambda params (.Subscript (.Name x px) (.Name a pa) pb) scope lpos, kp⟩, ⟨some "reverse", .Constant (.bool true) jb pc, kp2⟩] X.env)).all (·.1.isSome) = true := by rfl) (hnone : (backToKw pos (keywordEach [⟨some "key", .Lambda params (.Subscript (.Name x px) (.Name a pa) pb) scope lpos, kp⟩, ⟨some "reverse", .Constant (.bool true) jb pc, kp2⟩] X.env)).any (·.1.isNone) = false := by rfl)
    (hks : (backToKw pos (keywordEach [⟨some "key", .Lambda params (.Subscript (.Name x px) (.Name a pa) pb) scope lpos, kp⟩, ⟨some "reverse", .Constant (.bool true) jb pc, kp2⟩] X.env)).filterMap (·.1) = [Str.ofString "key", Str.ofString "reverse"] := by rfl) :
    VF X P (.Call (.Name "sorted" p) [e] [⟨some "key", .Lambda params (.Subscript (.Name x px) (.Name a pa) pb) scope lpos, kp⟩, ⟨some "reverse", .Constant (.bool true) jb pc, kp2⟩] pos) (lSortAt i true f) :=
  PE.weak (pe_sortLamR hr hg hm TB hcode hmT hu L hdef hbind (kd_at L hN hx hd1 hd2 hd3) he hst hbt hpl hall hnone hks) at_reads
theorem day_reads (σ : L2.St) (H : Hp) (Q : L2.VK) (h : tvF P (lSortDay i f) σ H Q) : tSortLam X.K P.tb (kdPair X.K i) false (tv P f) σ H Q := by
  obtain ⟨Bf, ow, en, k, d, en', hf, q⟩ := h
  unfold lSortDay at hf
  split at hf <;> first | cases hf | skip
  rename_i ds en1 h1
  split at hf <;> first | cases hf | skip
  rename_i ns h2
  split at hf <;> first | cases hf | skip
  rename_i ms h3
  split at hf <;> first | cases hf | skip
  rename_i h4
  have := intsOf_eq h2
  subst this
  refine ⟨Bf, ow, en, k, _, _, h1, fun v ow1 H1 k1 r1 p1 => ⟨k1.htab, fun H2 ex => ?_⟩⟩
  cases p1 with
  | lst n1 d1 s1 =>
    have := s1.ints
    subst this
    have k2 := k1.extT ex
    obtain ⟨v, g1, g2⟩ := k2.hva i _ h3
    cases g2 with
    | tup nb e rs =>
    have hk : ∀ n ∈ ns, kdPair X.K i σ H2 n (.tuple [.int ((dayOf ms n).getD 0), .int n]) := fun n hn => by
      obtain ⟨w0, ys, w1, w2⟩ := dayOf_some (List.all_eq_true.mp h4 n hn)
      obtain ⟨v, w3, w4⟩ := rs.get w1
      cases w4 with
      | tup nb2 e2 rs2 =>
        obtain ⟨v2, w5, w6⟩ := rs2.get w2
        cases w6
        exact ⟨_, _, _, _, _, g1, SqT.of e, w0, w3, SqT.of e2, w5, rfl⟩
    refine ⟨_, ns, fun n => .tuple [.int ((dayOf ms n).getD 0), .int n], rfl, .inl (Rd.keep d1 fun o e t => ex.keep _ o e t), hk, fun n _ => by simp [PyData.depth, PyData.depthAll], PySem.W.AllAlike.of fun _ _ => by simp [PySem.W.alike, PySem.W.alikeAll], PySem.W.Sortable.tuples fun _ => ⟨_, _, rfl⟩, fun p hp => ?_⟩
    have e2 : ns.mergeSort (PySem.W.dataLe false fun n => .tuple [.int ((dayOf ms n).getD 0), .int n]) = sortDay (fun n => (dayOf ms n).getD 0) ns := by
      unfold sortDay
      rw [PySem.W.dataLe_ii (β := Int) (fun n => (dayOf ms n).getD 0) (fun n => n)]
    rw [e2]
    exact fresh_of (f := Q) k2 (r1.trans ex.rel) hp (RpL.ofInts _) q
theorem vf_sortDay {k1 x1 : _} {p1 p2 p3 p4 pl : Pos} (hr : Room j X.A) (hg : Gl X "sorted") (hm : X.mg "sorted" = none) (TB : LamX.TabB X.base X.mg c T) (hcode : X.env.code = .ref c) (hmT : (T, X.env.qual ++ "<lambda>") ∈ P.tb) (hu : ∀ p ∈ P.tb, p.1 = T → p.2 = X.env.qual ++ "<lambda>")
    (L : LamS1 X.env.scope scope a) (hdef : defaultsOf params X.env = ([], []))
    (hbind : ∀ (q : Str) (cl : List (Str × Addr)) (pm cv ctv u : Value), bindArgs (PySem.W.kla_fn "<lambda>" q params (.Tuple [.Subscript (.Subscript (.Name x px) (.Name a pa) p1) (.Constant (.int 1) k1 p2) p3, .Name a p4] x1 pl) scope cl pm cv ctv) ⟨[u], []⟩ = pure [(a, u)]) (hN : X.N[i]? = some x) (hx : scope.names.lookup x = some .free) (he : VE X P e f)
    (hd1 : (x == ("__debug__" : Str)) = false := by decide) (hd2 : (x == ("__classdict__" : Str)) = false := by decide) (hd3 : (a == ("__debug__" : Str)) = false := by decide)
    (hst2 : ∀ env : Env, starEach [.Subscript (.Subscript (.Name x px) (.Name a pa) p1) (.Constant (.int 1) k1 p2) p3, .Name a p4] env = (false, eval (.Subscript (.Subscript (.Name x px) (.Name a pa) p1) (.Constant (.int 1) k1 p2) p3) env) :: (false, eval (.Name a p4) env) :: [] := by intro _; rfl)
    (hst : starEach [e] X.env = (false, eval e X.env) :: starEach [] X.env := by rfl) (hbt : backTo pos (starEach [e] X.env) = (false, eval e X.env) :: backTo pos (starEach [] X.env) := by rfl) (hpl : (backTo pos (starEach [e] X.env)).any (·.1) = false := by rfl)
    (hall : (backToKw pos (keywordEach [⟨some "key", .Lambda params (.Tuple [.Subscript (.Subscript (.Name x px) (.Name a pa) p1) (.Constant (.int 1) k1 p2) p3, .Name a p4] x1 pl) scope lpos, kp⟩] X.env)).all (·.1.isSome) = true := by rfl)
    (hnone : (backToKw pos (keywordEach [⟨some "key", .Lambda params (.Tuple [.Subscript (.Subscript (.Name x px) (.Name a pa) p1) (.Constant (.int 1) k1 p2) p3, .Name a p4] x1 pl) scope lpos, kp⟩] X.env)).any (·.1.isNone) = false := by rfl)
    (hks : (backToKw pos (keywordEach [⟨some "key", .Lambda params (.Tuple [.Subscript (.Subscript (.Name x px) (.Name a pa) p1) (.Constant (.int 1) k1 p2) p3, .Name a p4] x1 pl) scope lpos, kp⟩] X.env)).filterMap (·.1) = [Str.ofString "key"] := by rfl) :
    VF X P (.Call (.Name "sorted" p) [e] [⟨some "key", .Lambda params (.Tuple [.Subscript (.Subscript (.Name x px) (.Name a pa) p1) (.Constant (.int 1) k1 p2) p3, .Name a p4] x1 pl) scope lpos, kp⟩] pos) (lSortDay i f) :=
  PE.weak (pe_sortLam hr hg hm TB hcode hmT hu L hdef hbind (kd_pair L hN hx hd1 hd2 hd3 hst2) he hst hbt hpl hall hnone hks) day_reads
end
/-! ### a def whose lambdas are noted in its own table -/
/-- what a name's def is, its code object and its table known -/
structure NmdT (K : PySem.W.Frag) (mg : Str → Option Value) (base : Heap) (tb : List (Addr × Str)) (x : String) (st : Stmt) (ps : List Str) : Prop where
  ex : ∃ (f c T : Addr) (oc : Value) (od an : Option Addr) (kV doc pm ct : Value) (osl : Array (Option Value)), mg x = some (.ref f) ∧ K.lookup f = some ⟨oc, od, .func (PySem.W.fnOf x x (defArgs st) (defBody st) (defScope st) .none kV doc pm an (.ref c) ct), osl⟩ ∧ PySem.W.codeIn K (.ref c) x = true ∧
    PySem.W.keepIn K (.ref f) = true ∧ L2.Binds K (PySem.W.fnOf x x (defArgs st) (defBody st) (defScope st) .none kV doc pm an (.ref c) ct) ps [] ∧ LamX.TabB base mg c T ∧ (T, (Str.ofString x ++ ".<locals>.") ++ "<lambda>") ∈ tb ∧ ∀ p ∈ tb, p.1 = T → p.2 = (Str.ofString x ++ ".<locals>.") ++ "<lambda>"
section
variable {Pg : Program} {w : World} {K : PySem.W.Frag} {mg : Str → Option Value} {base : Heap} {P : Pl}
theorem def_LT {x : String} {st : Stmt} {N ps : List Str} {k : Nat} {f : FS} (F : NmdT K mg base P.tb x st ps) (S : FnScope N ps (defScope st))
    (hb : ∀ (fa c T : Addr) (A : Around) (outer : List Env) (s : Shared) (H : Hp) (E : XK), LamX.TabB base mg c T → (T, (Str.ofString x ++ ".<locals>.") ++ "<lambda>") ∈ P.tb → (∀ p ∈ P.tb, p.1 = T → p.2 = (Str.ofString x ++ ".<locals>.") ++ "<lambda>") →
      Room k (A.deeper (envOfC x (defScope st) s.heap.objs.size fa (.ref c))) → VB (cxOf CX0 Pg w K mg base N x (defScope st) fa (.ref c) A outer s H E).nox P (defBody st) f) :
    Def Pg w K mg base x (k + 1) ps (spL P ps.length (fnL N.length f)) := by
  obtain ⟨fa, c, T, oc, od, an, kV, doc, pm, ct, osl, h1, lk, hcd, hk, hbi, tb, hm, hu⟩ := F.ex
  refine ⟨fa, _, h1, hk, hbi, fn_of lk hcd S (len_L rfl) fun A outer s H vs Q E hr h => ?_, _, _, _, lk⟩
  exact ⟨_, (hb fa c T A outer s H E tb hm hu hr).nox, body_L h⟩
theorem def_VT {x : String} {st : Stmt} {N ps : List Str} {k : Nat} {f : FS} (F : NmdT K mg base P.tb x st ps) (S : FnScope N ps (defScope st))
    (hb : ∀ (fa c T : Addr) (A : Around) (outer : List Env) (s : Shared) (H : Hp) (E : XK), LamX.TabB base mg c T → (T, (Str.ofString x ++ ".<locals>.") ++ "<lambda>") ∈ P.tb → (∀ p ∈ P.tb, p.1 = T → p.2 = (Str.ofString x ++ ".<locals>.") ++ "<lambda>") →
      Room k (A.deeper (envOfC x (defScope st) s.heap.objs.size fa (.ref c))) → VB (cxOf CX0 Pg w K mg base N x (defScope st) fa (.ref c) A outer s H E).nox P (defBody st) f) :
    Def Pg w K mg base x (k + 1) ps (spV P ps.length (fnV N.length f)) := by
  obtain ⟨fa, c, T, oc, od, an, kV, doc, pm, ct, osl, h1, lk, hcd, hk, hbi, tb, hm, hu⟩ := F.ex
  refine ⟨fa, _, h1, hk, hbi, fn_of lk hcd S (len_V rfl) fun A outer s H vs Q E hr h => ?_, _, _, _, lk⟩
  exact ⟨_, (hb fa c T A outer s H E tb hm hu hr).nox, body_V h⟩
end
end VL

namespace VL
open PySem PySem.Spec
open PyProof.Rows L2
/-! a number in a tuple of numbers -/
def gInTu : D → D → Option D
  | .int n, .tuple ds => match intsOf ds with
    | some ns => some (.bool (decide (n ∈ ns)))
    | none => none
  | _, _ => none
theorem rp_ints {H : Hp} {B : Addr → Prop} : ∀ {ns : List Int} {xs : List V}, RpL H B (ns.map .int) xs → xs = ns.map V.int
  | [], _, h => by
    cases h
    rfl
  | n :: ns, _, h => by
    rw [List.map_cons] at h
    cases h with
    | cons h1 h2 =>
      cases h1
      rw [rp_ints h2]
      rfl
theorem inV_ints (n : Int) (ns : List Int) : inV (V.int n) (ns.map V.int) = decide (n ∈ ns) := by
  unfold inV
  induction ns with
  | nil => simp
  | cons m ms ih =>
    rw [List.map_cons, List.any_cons, ih]
    by_cases h : m = n
    · subst h
      simp [eqV]
    · have h2 : ¬ n = m := fun z => h z.symm
      simp [eqV, h, h2]
theorem ints_flat : ∀ ns : List Int, (ns.map V.int).all flatV = true
  | [] => rfl
  | n :: ns => by
    rw [List.map_cons, List.all_cons, ints_flat ns]
    rfl
theorem ov_inTu {K : PySem.W.Frag} : OpV (rIn K false) gInTu := by
  intro H B d1 d2 d v1 v2 Q e p1 p2 nb q
  unfold gInTu at e
  split at e <;> first | cases e | skip
  split at e <;> first | cases e | skip
  rename_i h
  cases p1
  cases p2 with
  | tup n1 r1 s1 =>
    rw [intsOf_eq h] at s1
    have := rp_ints s1
    subst this
    refine ⟨_, _, rfl, .inr (SqT.of r1), rfl, ints_flat _, ?_⟩
    have := q (.bl _) H .refl (.bl _)
    simpa [inV_ints] using this
end VL

namespace VL
open PySem PySem.Spec
open PyProof.Rows L2
section
variable {X : Cx} {P : Pl} {c : Expr} {ta : FT} {f : FS} {pos : Pos}
/-! ### while -/
def whD (t : FT) (f : FS) : Nat → FS
  | 0, _ => none
  | n + 1, en => match t en with
    | some (true, en1) => match f en1 with
      | some (.nx en2) => whD t f n en2
      | some (.ct en2) => whD t f n en2
      | some (.bk en2) => some (.nx en2)
      | some (.rt v en2) => some (.rt v en2)
      | some (.rf v en2) => some (.rf v en2)
      | some (.rd t v en2) => some (.rd t v en2)
      | none => none
    | some (false, en1) => some (.nx en1)
    | none => none
def sWhile (n : Nat) (t : FT) (f : FS) : FS := whD t f n
theorem vs_while (n : Nat) {body : List Stmt} (hp : PassesOwn (model X.prog X.w) X.A X.env X.xe) (hc : VT X P c ta) (hb : VB X P body f) : VS X P (.While c body [] pos) (sWhile n ta f) := PS.weak (ps_while hp hc hb) fun Dn σ H h => by
  obtain ⟨Bf, ow, en, k, o, hf, q⟩ := h
  refine ⟨fun m σ' H' => ∃ ow' en', Ok P Bf ow' en' σ' H' ∧ RelS P H ow H' ow' ∧ whD ta f m en' = some o, ⟨n, ow, en, k, .refl, hf⟩, ?_⟩
  rintro m σ2 H2 ⟨ow2, en2, k2, r2, e2⟩
  cases m with
  | zero => cases e2
  | succ m =>
    unfold whD at e2
    cases et : ta en2 with
    | none => rw [et] at e2; cases e2
    | some p =>
      obtain ⟨b, en3⟩ := p
      rw [et] at e2
      refine ⟨Bf, ow2, en2, k2, b, en3, et, fun ow3 H3 k3 r3 => ?_⟩
      have r23 := r2.trans r3.s
      cases b with
      | false =>
        cases e2
        dsimp only
        rw [if_neg (by decide)]
        exact q ow3 σ2 H3 k3 r23
      | true =>
        dsimp only
        rw [if_pos rfl]
        refine ⟨fun σ' H' => ∃ ow' en', Ok P Bf ow' en' σ' H' ∧ RelS P H ow H' ow' ∧ whD ta f m en' = some o, fun σ' H' h => ⟨m, Nat.lt_succ_self m, h⟩, ?_⟩
        simp only at e2
        cases ef : f en3 with
        | none => rw [ef] at e2; cases e2
        | some o3 =>
          refine ⟨Bf, ow3, en3, k3, o3, ef, ?_⟩
          rw [ef] at e2
          cases o3 with
          | nx en4 => exact fun ow4 σ4 H4 k4 r4 => ⟨ow4, en4, k4, r23.trans r4, e2⟩
          | ct en4 => exact fun ow4 σ4 H4 k4 r4 => ⟨ow4, en4, k4, r23.trans r4, e2⟩
          | bk en4 =>
            cases e2
            exact fun ow4 σ4 H4 k4 r4 => q ow4 σ4 H4 k4 (r23.trans r4)
          | rt v en4 =>
            cases e2
            exact q.trans r23
          | rf v en4 =>
            cases e2
            exact q.trans r23
          | rd t v en4 =>
            cases e2
            exact q.trans r23
end
end VL

namespace VL
open PySem PySem.Spec
open PyProof.Rows L2
/-! ### dicts that are given back -/
abbrev DR := Bool × DKV
abbrev FDc := En → Option (DR × En)
abbrev FFD := En → Option (DR × En)
section
variable {X : Cx} {P : Pl} {a b e : Expr} {es : List Expr} {fa fb : FE} {gm : FM} {pos apos cpos : Pos}
def tvD (P : Pl) (f : FDc) : TE := fun σ H Q => ∃ Bf ow en, Ok P Bf ow en σ H ∧ ∃ r en', f en = some (r, en') ∧
  ∀ p ow' H', Ok P (insB Bf p) ow' en' σ H' → Rel P H ow H' ow' → ¬ Bf.bl p → ¬ Bf.od p → (∀ i, ow' i ≠ some p) → H p = none → DcAt H' (blk (insB Bf p) ow') p ⟨r.1, false⟩ r.2 → Q (.ref p) H'
def VD (X : Cx) (P : Pl) (e : Expr) (f : FDc) : Prop := PE X e (tvD P f)
def sOwnD (i : Nat) (f : FDc) : FS := fun en => match f en with
  | some (r, en1) => if i < en1.length then some (.nx (en1.set i (.dc ⟨r.1, false⟩ r.2))) else none
  | none => none
theorem vs_ownD {f : FDc} {i : Nat} {x : Str} {pos' : Pos} (hN : X.N.Nodup) (hi : X.N[i]? = some x) (hx : Loc X.env.scope x := by first | exact .inl rfl | exact .inr rfl) (hP : i ∉ P) (he : VD X P e f) (hs : swapsWith e (some (.Name x pos')) pos.line X.env = pure false := by rfl)
    (hf : X.fn x = true ∨ X.env.scope.names.lookup x = some .local := by first | exact .inl rfl | exact .inr rfl | assumption) : VS X P (.Assign [.Name x pos'] e pos) (sOwnD i f) :=
  PS.weak (ps_set hN hi hx he hs hf) fun Dn σ H h => by
    obtain ⟨Bf, ow, en, k, o, hf, q⟩ := h
    unfold sOwnD at hf
    split at hf <;> first | cases hf | skip
    rename_i ds en1 h1
    split at hf <;> first | cases hf | skip
    rename_i hl
    exact ⟨Bf, ow, en, k, _, _, h1, fun p ow1 H1 k1 r1 b1 b2 b3 b4 hd => q _ _ _ (k1.putO rfl hP hl b1 b2 b3 hd) (put_rel hP r1 b4)⟩
def sRetDF (f : FDc) : FS := fun en => match f en with
  | some (r, en1) => some (.rd r.1 r.2 en1)
  | none => none
theorem vs_retDF {f : FDc} (he : VD X P e f) : VS X P (.Return (some e) pos) (sRetDF f) := PS.weak (ps_ret he) fun Dn σ H h => by
  obtain ⟨Bf, ow, en, k, o, hf, q⟩ := h
  unfold sRetDF at hf
  split at hf <;> first | cases hf | skip
  rename_i d en1 h1
  exact ⟨Bf, ow, en, k, _, _, h1, fun p ow1 H1 k1 r1 b1 b2 b3 b4 hd => q ow1 σ H1 p k1 r1.s b1 b2 b3 hd⟩
def sRetD (P : List Nat) (i : Nat) : FS := fun en => match en[i]? with
  | some (.dc ⟨t, false⟩ kvs) => if i ∈ P then none else some (.rd t kvs (en.set i .un))
  | _ => none
theorem vs_retD {i : Nat} {x : Str} {p : Pos} (hN : X.N[i]? = some x) (hv : Vis X.env.scope x := by first | exact .inl rfl | exact .inr (.inl rfl) | exact .inr (.inr rfl)) (hd : (x == ("__debug__" : Str)) = false := by decide) (hcd : (x == ("__classdict__" : Str)) = false := by decide) : VS X P (.Return (some (.Name x p)) pos) (sRetD P.ps i) :=
  PS.weak (ps_ret (pe_var hN hv hd hcd)) fun Dn σ H h => by
    obtain ⟨Bf, ow, en, k, o, hf, q⟩ := h
    unfold sRetD at hf
    split at hf <;> first | cases hf | skip
    rename_i t kvs e0
    split at hf <;> first | cases hf | skip
    rename_i hi
    obtain ⟨a, g1, k2, b1, b2, b3, ho⟩ := k.freeO hi e0 rfl
    exact ⟨_, g1, q _ σ H a k2 (dropOw_rel hi).s b1 b2 b3 ho⟩
end
def spD (P : Pl) (n : Nat) (F : FFD) : Sp := fun vs H Q _ => ∃ Bf ow as, as.length = n ∧ Ok P Bf ow as (vs.map some) H ∧ (∀ i a, ow i = some a → i ∈ P) ∧ (∀ (i : Nat) (d : D), as[i]? ≠ some (Sl.vn d)) ∧ ∃ r as', F as = some (r, as') ∧
  ∀ p H', Aft P (insB Bf p) ow as' H H' → H p = none → DcAt H' (blk (insB Bf p) ow) p ⟨r.1, false⟩ r.2 → Q (.ref p) H'
def fnD (m : Nat) (f : FS) : FFD := fun as => match f (as ++ List.replicate (m - as.length) .un) with
  | some (.rd t kvs en) => some ((t, kvs), en)
  | _ => none
section
variable {P : Pl} {Bf : Bk} {ow ow' : Nat → Option Addr} {as en' : En} {vs : List V} {H H' : Hp}
theorem body_D {N : List Str} {n : Nat} {f : FS} {Q : L2.VK} {E : XK} (h : spD P n (fnD N.length f) vs H Q E) : tvS P f { nx := fun _ H' => Q .non H', rt := Q } (L2.start N vs) H := by
  obtain ⟨Bf, ow, as, hl, k, hw, hn, d, as', hF, q⟩ := h
  unfold fnD at hF
  split at hF
  · rename_i t kvs en h1
    cases hF
    refine ⟨runB Bf H, ow, _, ok_start k hw hn, _, h1, fun ow' σ' H' p k' r b1 b2 b3 rs => ?_⟩
    refine q p H' (aft_ofI hw k' r) ?_ (DcAt.move rs (fun o e _ => e) fun b o e t n => ⟨e, fun z => n (run_subI hw r.hpin z)⟩)
    cases e : H p with
    | none => rfl
    | some o => exact absurd (show H p ≠ none by rw [e]; exact fun z => nomatch z) b2
  · cases hF
theorem len_D {n : Nat} {F : FFD} {ps : List Str} (hn : ps.length = n) : ∀ vs H Q E, spD P n F vs H Q E → vs.length = ps.length := fun vs H Q E h => by
  obtain ⟨Bf, ow, as, hl, k, _⟩ := h
  have := k.hlen
  rw [List.length_map] at this
  omega
end
section
variable {Pg : Program} {w : World} {K : PySem.W.Frag} {mg : Str → Option Value} {base : Heap} {P : Pl}
theorem def_D {x : String} {st : Stmt} {N ps : List Str} {k : Nat} {f : FS} (F : Nmd K mg x st ps) (S : FnScope N ps (defScope st))
    (hb : ∀ (fa : Addr) (cdv : Value) (A : Around) (outer : List Env) (s : Shared) (H : Hp) (E : XK), Room k (A.deeper (envOfC x (defScope st) s.heap.objs.size fa cdv)) → VB (cxOf CX0 Pg w K mg base N x (defScope st) fa cdv A outer s H E).nox P (defBody st) f) :
    Def Pg w K mg base x (k + 1) ps (spD P ps.length (fnD N.length f)) := by
  obtain ⟨fa, fd, h1, h2, h3⟩ := F.ex
  exact ⟨fa, fd, h1, h2.kp, h3, h2.ok S (len_D rfl) fun cdv A outer s H vs Q E hr h => ⟨_, hb fa cdv A outer s H E hr, body_D h⟩, fun_lk h2⟩
end
section
variable {X : Cx} {P : Pl} {a b e : Expr} {es : List Expr} {fa fb : FE} {gm : FM} {pos apos cpos : Pos}
def dCallF (P' : List Nat) (n : Nat) (F : FFD) (g : FM) : FDc := fun en => match g en with
  | some (ms, en1) => if handOk P' ms = true ∧ noB ms = true ∧ ms.length = n then (match F (ms.map (mdSl en1)) with
    | some (d, as') => some (d, putBack ms 0 as' en1)
    | none => none) else none
  | none => none
theorem tvD_callF {P' : Pl} (hP : P'.tb = P.tb) {n : Nat} {F : FFD} {E : XK} (σ : L2.St) (H : Hp) (Q : L2.VK) (h : tvD P (dCallF P'.ps n F gm) σ H Q) : tCall (spD P' n F) [] E (tvM P gm) σ H Q := by
  obtain ⟨Bf, ow, en, k, d, en', hf, q⟩ := h
  unfold dCallF at hf
  split at hf <;> first | cases hf | skip
  rename_i ms en1 h1
  split at hf <;> first | cases hf | skip
  rename_i hc
  obtain ⟨hh, hb, hl⟩ := hc
  split at hf <;> first | cases hf | skip
  rename_i d' as' hF
  refine ⟨Bf, ow, en, k, ms, en1, h1, fun vs ow1 H1 k1 r1 m1 => ?_⟩
  show spD P' n F (vs ++ []) H1 Q E
  rw [List.append_nil]
  obtain ⟨kc, hw, hn⟩ := callee_ok hP k1 m1 hb hh
  refine ⟨_, _, _, by rw [List.length_map]; exact hl, kc, hw, hn, d, as', hF, fun p H' af hp0 rs => ?_⟩
  have np := k1.nb hp0
  have sub : ∀ b, blk (insB Bf p) ow1 b → blk (insB ⟨blk Bf ow1, fun _ => False⟩ p) (mdOw ow1 ms) b := fun b z => by
    rcases insB_blk z with z | z
    · exact .inl (.inl z)
    · exact .inl (.inr z)
  have mvy : ∀ b o, H1 b = some o → NT o → ¬ blk Bf ow1 b → H' b = some o ∧ ¬ blk (insB Bf p) ow1 b := fun b o e t nb => ⟨af.keep b o e t fun j z => (by
    unfold mdOw at z
    split at z
    · exact nb (.inr ⟨_, z⟩)
    · exact nomatch z), fun z => (by
    rcases insB_blk z with z | z
    · exact nb z
    · subst z
      rw [hp0] at e
      exact nomatch e)⟩
  have hnt : nt H' p := OwnAt.nt (s := .dc ⟨d.1, false⟩ d.2) rs
  have hbf : ∀ b, (insB Bf p).bl b → nt H' b := fun b z => by
    rcases z with z | z
    · exact af.ntk b (k1.hbf b z)
    · subst z
      exact hnt
  have hloc : ∀ i a, ow1 i = some a → i ∉ P → ¬ (insB Bf p).bl a := fun i a e hi z => by
    rcases z with z | z
    · exact (k1.hloc i a e hi).1 z
    · subst z
      exact np (.inr ⟨i, e⟩)
  obtain ⟨k2, r2⟩ := caller_ok hP k1 m1 hh af (insB Bf p) (fun b z => sub b (blk_insB z)) sub rfl mvy hbf hloc
  have h0 : H p = none := by
    cases e : H p with
    | none => rfl
    | some o => exact absurd hp0 (r1.hsome p (by rw [e]; exact fun z => nomatch z))
  exact q p ow1 H' k2 (r1.trans r2) (fun z => np (.inl z)) (fun z => k1.hod p z hp0) (fun i z => np (.inr ⟨i, z⟩)) h0 (DcAt.move rs (fun o e _ => e) fun b o e t nb => ⟨e, fun z => nb (sub b z)⟩)
theorem vd_call {x : Str} {k n : Nat} {ps : List Str} {ps' : List Nat} {F : FFD} {p : Pos} (D : Def X.prog X.w X.K X.mg X.base x k ps (spD ⟨ps', P.tb⟩ n F)) (hr : Room k X.A) (hg : Gl X x) (ha : VM X P (e :: es) gm)
    (hdb : (x == ("__debug__" : Str)) = false := by decide) (he : starEach (e :: es) X.env = (false, eval e X.env) :: starEach es X.env := by rfl) (hpl : (backTo pos (starEach es X.env)).any (·.1) = false := by rfl)
    : VD X P (.Call (.Name x p) (e :: es) [] pos) (dCallF ps' n F gm) := by
  obtain ⟨f, fd, h1, h2, h3, h4, _⟩ := D.ex
  exact PE.weak (pe_call (E := fun _ _ _ => False) h4 hr hg h1 h2 h3 .nil pass0 ha hdb he hpl) (tvD_callF (P := P) (P' := ⟨ps', P.tb⟩) rfl)
/-! ### list(d), the keys of a dict -/
def lKeysD (i : Nat) : FL := fun en => match en[i]? with
  | some (.dc ⟨false, _⟩ kvs) => some (kvs.map fun p => kToD false p.1, en)
  | _ => none
theorem rpl_keys {H : Hp} {B : Addr → Prop} : ∀ {kvs : DKV} {ks : List (Key × V)}, Paired (fun (p : List Key × D) (q : Key × V) => p.1 = [q.1] ∧ Rp H B p.2 q.2) kvs ks → RpL H B (kvs.map fun p => kToD false p.1) (ks.map fun kv => kV kv.1)
  | _, _, .nil => .nil
  | _, _, .cons (a := p) (b := q) r rs => by
    rw [List.map_cons, List.map_cons, r.1]
    exact .cons (rp_kD q.1) (rpl_keys rs)
theorem vf_listD {i : Nat} {x : Str} {p p' pos : Pos} (hc : X.calm = true) (hN : X.N[i]? = some x) (hv : Vis X.env.scope x := by first | exact .inl rfl | exact .inr (.inl rfl) | exact .inr (.inr rfl)) (hg : Gl X "list") (hm : X.mg "list" = none)
    (hd : (x == ("__debug__" : Str)) = false := by decide) (hcd : (x == ("__classdict__" : Str)) = false := by decide)
    (hst : starEach [.Name x p'] X.env = (false, eval (.Name x p') X.env) :: starEach [] X.env := by rfl) (hpl : (backTo pos (starEach [] X.env)).any (·.1) = false := by rfl) : VF X P (.Call (.Name "list" p) [.Name x p'] [] pos) (lKeysD i) :=
  PE.weak (pe_callTy (call_listD hc) hg hm (by decide +kernel) (pa_cons (pe_var hN hv hd hcd) pa_nil hst) (by decide) (by decide) hst hpl) fun σ H Q h => by
    obtain ⟨Bf, ow, en, k, d, en', hf, q⟩ := h
    unfold lKeysD at hf
    split at hf <;> first | cases hf | skip
    rename_i l kvs e0
    obtain ⟨a, g1, g2, g3⟩ := k.hdc i _ kvs e0
    obtain ⟨ks, g4, g5⟩ := g3
    exact ⟨_, g2, a, ks, rfl, g4.rd, fun p hp => fresh_of (f := Q) k .refl hp (rpl_keys g5) q⟩
end
end VL

namespace VL
open PySem PySem.Spec
open PyProof.Rows L2
/-! ### a new list, some times over -/
theorem rpl_app {H : Hp} {B : Addr → Prop} : ∀ {ds es : List D} {xs ys : List V}, RpL H B ds xs → RpL H B es ys → RpL H B (ds ++ es) (xs ++ ys)
  | [], _, _, _, h, h2 => by
    cases h
    exact h2
  | d :: ds, _, _, _, h, h2 => by
    cases h with
    | cons a b => exact .cons a (rpl_app b h2)
theorem rpl_rep {H : Hp} {B : Addr → Prop} {ds : List D} {xs : List V} (h : RpL H B ds xs) : ∀ n : Nat, RpL H B (List.replicate n ds).flatten (List.replicate n xs).flatten
  | 0 => .nil
  | n + 1 => by
    rw [List.replicate_succ, List.replicate_succ, List.flatten_cons, List.flatten_cons]
    exact rpl_app h (rpl_rep h n)
def lRep (k : Int) (f : FL) : FL := fun en => match f en with
  | some (ds, en1) => if 0 ≤ k ∧ k < 1000 ∧ ds.length * k.toNat ≤ sizeLine then some ((List.replicate k.toNat ds).flatten, en1) else none
  | none => none
section
variable {X : Cx} {P : Pl} {a : Expr} {f : FL} {pos p2 : Pos}
theorem vf_rep {k : Int} {j : Nat} (ha : VF X P a f) : VF X P (.BinOp a .Mult (.Constant (.int k) j p2) pos) (lRep k f) := PE.weak (pe_op op_rep ha pe_int) fun σ H Q h => by
  obtain ⟨Bf, ow, en, K, d, en', hf, q⟩ := h
  unfold lRep at hf
  split at hf <;> first | cases hf | skip
  rename_i ds en1 h1
  split at hf <;> first | cases hf | skip
  rename_i hc
  refine ⟨Bf, ow, en, K, ds, _, h1, fun p xs ow1 H1 k1 r1 b1 b2 b3 b4 hp rs => ⟨p, k, xs, rfl, rfl, hp, by omega, by omega, ?_, fun p2 hp2 => ?_⟩⟩
  · rw [← rs.length]
    exact hc.2.2
  · exact fresh_of (f := Q) k1.unins r1 hp2 (rpl_rep rs.unins _) q
end
end VL

namespace VL
open PySem PySem.Spec
open PyProof.Rows L2
/-! ### a cut of a tuple, be it the whole -/
def sliceA : D → Option Int → Option Int → Option D
  | .tuple xs, lo, hi => some (.tuple (cutD xs lo hi))
  | _, _, _ => none
def eSlA (f : FE) (fl fh : FO) : FE := fun en => match f en with
  | some (d, en1) => match fl en1 with
    | some (lo, en2) => match fh en2 with
      | some (hi, en3) => match sliceA d lo hi with
        | some z => some (z, en3)
        | none => none
      | none => none
    | none => none
  | none => none
section
variable {X : Cx} {P : Pl} {e : Expr} {fa : FE} {pos : Pos}
theorem ve_sliceA {lo hi : Option Expr} {fl fh : FO} {p2 : Pos} (he : VE X P e fa) (hl : VO X P lo fl) (hu : VO X P hi fh) : VE X P (.Subscript e (.Slice lo hi none p2) pos) (eSlA fa fl fh) :=
  PE.weak (pe_slice sl_tupA he hl hu) fun σ H Q h => by
    obtain ⟨Bf, ow, en, k, d, en', hf, q⟩ := h
    unfold eSlA at hf
    split at hf <;> first | cases hf | skip
    rename_i d0 en1 h0
    split at hf <;> first | cases hf | skip
    rename_i lo' en2 h1
    split at hf <;> first | cases hf | skip
    rename_i hi' en3 h2
    split at hf <;> first | cases hf | skip
    rename_i z h3
    refine ⟨Bf, ow, en, k, _, _, h0, fun v ow1 H1 k1 r1 p1 => ⟨Bf, ow1, en1, k1, _, _, h1, fun ow2 H2 k2 r2 => ⟨Bf, ow2, en2, k2, _, _, h2, fun ow3 H3 k3 r3 => ?_⟩⟩⟩
    have p3 := r3.rp (r2.rp p1)
    unfold sliceA at h3
    split at h3
    · cases h3
      cases p3 with
      | tup nb rd rs =>
        refine ⟨_, _, rfl, SqT.of rd, fun z => ?_, fun _ pp hp => ?_⟩
        · refine q _ ow3 _ k3 (r1.trans (r2.trans r3)) ?_
          have : ∀ ds : List D, ds.length = _ → cutD ds lo' hi' = ds := fun ds hds => by
            unfold cutD
            exact sIx_full ds lo' hi' (by rw [hds]; exact z.1) (by rw [hds]; exact z.2)
          rw [this _ rs.length]
          exact .tup nb rd rs
        · have rc := rs.cut lo' hi'
          exact q _ ow3 _ (k3.ext (.upd hp)) ((r1.trans (r2.trans r3)).trans (Ext.upd hp).rel) (.tup (k3.nb hp) upd_same ((Ext.upd hp).rpl rc))
    · cases h3
end
end VL

namespace VL
open PySem PySem.Spec
open PyProof.Rows L2
section
variable {X : Cx} {P : Pl}
/-! ### {k: v for ..}, with plain keys -/
def compK (g : FG) (tt : FT) (tk te : FE) (vs : List Nat) : List D → En → DKV → Option (DKV × En)
  | [], en, acc => some (acc, en)
  | d :: r, en, acc => match g d en with
    | some en1 => match tt en1 with
      | some (true, en2) => match tk en2 with
        | some (kd, en3) => match te en3 with
          | some (y, en4) => match keyD false kd with
            | some k => if acc.length < sizeLine then compK g tt tk te vs r (wipeE en4 vs) (putD acc k y) else none
            | none => none
          | none => none
        | none => none
      | some (false, en2) => compK g tt tk te vs r (wipeE en2 vs) acc
      | none => none
    | none => none
def dComp (fi : FL) (g : FG) (tt : FT) (tk te : FE) (vs : List Nat) : FDc := fun en => match fi en with
  | some (ds, en1) => match compK g tt tk te vs ds (wipeE en1 vs) [] with
    | some (acc, en2) => some ((false, acc), en2)
    | none => none
  | none => none
abbrev PrK (H : Hp) (B : Addr → Prop) (acc : DKV) (ks : List (Key × V)) : Prop := Paired (fun (p : List Key × D) (q : Key × V) => p.1 = [q.1] ∧ Rp H B p.2 q.2) acc ks
theorem PrK.mv {H H' : Hp} {B B' : Addr → Prop} {acc : DKV} {ks : List (Key × V)} (h : PrK H B acc ks) (k : ∀ {d : D} {v : V}, Rp H B d v → Rp H' B' d v) : PrK H' B' acc ks := Paired.mapP h fun p q z => ⟨z.1, k z.2⟩
theorem tvD_dc {fi : FL} {g : FG} {tt : FT} {tk te : FE} {vs ts : List Nat} (hvP : ∀ i ∈ vs, i ∉ P) (hts : ∀ i ∈ ts, i ∈ vs) (σ : L2.St) (H : Hp) (Q : L2.VK) (h : tvD P (dComp fi g tt tk te vs) σ H Q) : tDc (tvI P fi) (tvG P ts g) (tvT P tt) (tv P tk) (tv P te) vs σ H Q := by
  obtain ⟨Bf, ow, en, k, out, en', hf, q⟩ := h
  unfold dComp at hf
  split at hf <;> first | cases hf | skip
  rename_i ds en1 h1
  split at hf <;> first | cases hf | skip
  rename_i accF hF
  refine ⟨Bf, ow, en, k, ds, en1, h1, fun J ow1 H1 k1 r1 wk Dd hD => ?_⟩
  obtain ⟨oww, kw, rw⟩ := Ok.wipe k1 vs hvP
  let Pv : Nat → Hp → Prop := fun i H' => i ≤ ds.length ∧ ∃ ow' en2 acc ks, Ok P (insB Bf Dd) ow' en2 (L2.wipe σ vs) H' ∧ Rel P H1 ow1 H' ow' ∧ (∀ j, ow' j ≠ some Dd) ∧ H' Dd = some (.dK ks) ∧ PrK H' (blk (insB Bf Dd) ow') acc ks ∧
    (∀ i ∈ vs, ∀ s, en2[i]? = some s → s = .un) ∧ compK g tt tk te vs (ds.drop i) en2 acc = some (accF, en')
  have npD := kw.nb hD
  refine ⟨fun i m H' => m = ds.length - i ∧ Pv i H', ⟨_, rfl, Nat.zero_le _, oww, _, [], [], kw.avoid hD (fun _ z => nomatch z), rw.trans (Ext.upd hD).rel, fun j z => npD (.inr ⟨j, z⟩), upd_same, .nil, fun i hi s e => wipeE_un vs en1 i hi s e, by simpa using hF⟩, ?_⟩
  rintro i m H2 ⟨rfl, hle, ow2, en2, acc, xs, k2, r2, nD, eD, rs, un2, e2⟩
  have mv2 : ∀ b o, H1 b = some o → NT o → ¬ blk Bf ow1 b → H2 b = some o ∧ ¬ blk (insB Bf Dd) ow2 b := fun b o e t n => by
    obtain ⟨z1, z2⟩ := r2.mv (Bf := Bf) b o e t n
    refine ⟨z1, fun z => ?_⟩
    rcases insB_blk z with z | z
    · exact z2 z
    · subst z
      rw [hD] at e
      cases e
  have W := wk (blk (insB Bf Dd) ow2) H2 i mv2 (fun p hp => k2.nb hp) r2.hfrz (fun b xs e => k2.notup e)
  by_cases hlt : i < ds.length
  · have ed : ds[i]? = some ds[i] := List.getElem?_eq_getElem hlt
    obtain ⟨w1, w2⟩ := W.1 _ ed
    refine .inr ⟨w1, Pv (i + 1), fun H' p' => ⟨ds.length - (i + 1), by omega, rfl, p'⟩, fun x H3 y => ?_⟩
    obtain ⟨ex, p⟩ := w2 x H3 y
    rw [List.drop_eq_getElem_cons hlt] at e2
    unfold compK at e2
    cases eg : g ds[i] en2 with
    | none => rw [eg] at e2; cases e2
    | some en3 =>
      rw [eg] at e2
      simp only at e2
      refine ⟨insB Bf Dd, ow2, en2, ds[i], k2.ext ex, p, en3, eg, fun ow3 σ3 k3 r3 w3' => ?_⟩
      have w3 : L2.wipe σ3 vs = L2.wipe σ vs := (w3' vs hts).trans (wipe_idem σ vs)
      refine ⟨w3, ?_⟩
      have r13 : Rel P H1 ow1 H3 ow3 := r2.trans (ex.rel.trans r3)
      have nD3 : ∀ j, ow3 j ≠ some Dd := fun j z => nD j (r3.hsub j _ z)
      cases et : tt en3 with
      | none => rw [et] at e2; cases e2
      | some bt =>
        obtain ⟨b, en4⟩ := bt
        rw [et] at e2
        refine ⟨insB Bf Dd, ow3, en3, k3, b, en4, et, fun ow4 H4 k4 r4 => ?_⟩
        have eD4 : H4 Dd = some (.dK xs) := (r4.hkeep Dd _ (ex _ _ eD) (fun _ z => nomatch z) nD3).1
        have nD4 : ∀ j, ow4 j ≠ some Dd := fun j z => nD3 j (r4.hsub j _ z)
        have rs4 : PrK H4 (blk (insB Bf Dd) ow4) acc xs := rs.mv fun z => (ex.rel.trans (r3.trans r4)).rp z
        cases b with
        | false =>
          simp only at e2
          change Pv (i + 1) H4
          obtain ⟨ow5, k5, r5⟩ := Ok.wipe k4 vs hvP
          rw [w3] at k5
          exact ⟨hlt, ow5, _, acc, xs, k5, (r13.trans r4).trans r5, fun j z => nD4 j (r5.hsub j _ z), eD4, rs4.mv fun z => r5.rp z, fun i hi s e => wipeE_un vs _ i hi s e, e2⟩
        | true =>
          simp only at e2
          refine (show tv P tk σ3 H4 _ from ?_)
          cases ek : tk en4 with
          | none => rw [ek] at e2; cases e2
          | some kt =>
            obtain ⟨kd, en5⟩ := kt
            rw [ek] at e2
            simp only at e2
            refine ⟨insB Bf Dd, ow4, en4, k4, kd, en5, ek, fun vk ow5 H5 k5 r5 pk => ?_⟩
            refine (show tv P te σ3 H5 _ from ?_)
            cases ee : te en5 with
            | none => rw [ee] at e2; cases e2
            | some yt =>
              obtain ⟨yd, en6⟩ := yt
              rw [ee] at e2
              simp only at e2
              cases eK : keyD false kd with
              | none => rw [eK] at e2; cases e2
              | some kk =>
                rw [eK] at e2
                simp only at e2
                split at e2 <;> first | cases e2 | skip
                rename_i hz
                obtain ⟨k0, rfl, hv⟩ := keyD_f pk eK
                refine ⟨insB Bf Dd, ow5, en5, k5, yd, en6, ee, fun v ow6 H6 k6 r6 p6 => ?_⟩
                have nD5 : ∀ j, ow5 j ≠ some Dd := fun j z => nD4 j (r5.hsub j _ z)
                have nD6 : ∀ j, ow6 j ≠ some Dd := fun j z => nD5 j (r6.hsub j _ z)
                have eD5 : H5 Dd = some (.dK xs) := (r5.hkeep Dd _ eD4 (fun _ z => nomatch z) nD4).1
                have eD6 : H6 Dd = some (.dK xs) := (r6.hkeep Dd _ eD5 (fun _ z => nomatch z) nD5).1
                have rs6 : PrK H6 (blk (insB Bf Dd) ow6) acc xs := rs4.mv fun z => r6.rp (r5.rp z)
                refine ⟨xs, k0, hv, eD6, by rw [← VL.Paired.len rs6]; exact hz, ?_⟩
                have mvD : ∀ (B : Nat → Option Addr), (∀ j, B j ≠ some Dd) → ∀ b o, H6 b = some o → NT o → ¬ blk (insB Bf Dd) B b → upd H6 Dd (.dK (putK xs k0 v)) b = some o ∧ ¬ blk (insB Bf Dd) B b := fun B _ b o e t n =>
                  ⟨by rw [upd_ne fun z => n (.inl (.inr z))]; exact e, n⟩
                have smD : ∀ b, H6 b ≠ none → upd H6 Dd (.dK (putK xs k0 v)) b ≠ none := fun b hb => by
                  by_cases z : b = Dd
                  · rw [z, upd_same]
                    exact fun z => nomatch z
                  · rw [upd_ne z]
                    exact hb
                have ntD : ∀ b, nt H6 b → nt (upd H6 Dd (.dK (putK xs k0 v))) b := fun b ⟨u, e, n⟩ => by
                  by_cases z : b = Dd
                  · rw [z]
                    exact ⟨_, upd_same, fun _ z => nomatch z⟩
                  · exact ⟨u, by rw [upd_ne z]; exact e, n⟩
                have k7 : Ok P (insB Bf Dd) ow6 en6 σ3 (upd H6 Dd (.dK (putK xs k0 v))) :=
                  ⟨k6.hlen, fun i d e => let ⟨w, g1, g2⟩ := k6.hva i d e; ⟨w, g1, g2.move (mvD ow6 nD6)⟩, fun i d e => let ⟨w, g1, g2⟩ := k6.hvn i d e; ⟨w, g1, g2.move fun b o e t n => ⟨(mvD ow6 nD6 b o e t fun z => n (.inl z)).1, n⟩⟩, fun i s e f => let ⟨a, g1, g2, g3⟩ := k6.hob i s e f; ⟨a, g1, g2, g3.move (fun o e _ => by rw [upd_ne fun z => nD6 i (by rw [← z]; exact g1)]; exact e) (mvD ow6 nD6)⟩,
                    k6.hdom, k6.hinj, fun b z => ntD b (k6.hbf b z), fun b z => smD b (k6.hod b z), k6.hloc, tabs_upd k6.htab eD6 (fun _ z => nomatch z) fun _ z => nomatch z⟩
                have r7 : Rel P H1 ow1 (upd H6 Dd (.dK (putK xs k0 v))) ow6 := by
                  have r16 := ((r13.trans r4).trans r5).trans r6
                  exact ⟨fun b o e t n => ⟨by
                    rw [upd_ne fun z => by rw [z, hD] at e; cases e]
                    exact (r16.hkeep b o e t n).1, (r16.hkeep b o e t n).2⟩, fun b hb => smD b (r16.hsome b hb), r16.hpin, r16.hsub, fun b o u e => by
                    rw [upd_ne fun z => by rw [z, hD] at e; cases e]
                    exact r16.hfrz b o u e, fun b e => ntD b (r16.hnt b e)⟩
                obtain ⟨ow8, k8, r8⟩ := Ok.wipe k7 vs hvP
                rw [w3] at k8
                have rput : PrK H6 (blk (insB Bf Dd) ow6) (putD acc [k0] yd) (putK xs k0 v) := pr_put (f := fun k => [k]) single_inj k0 p6 rs6
                exact ⟨hlt, ow8, _, _, _, k8, r7.trans r8, fun j z => nD6 j (r8.hsub j _ z), upd_same, (rput.mv fun z => z.move (mvD ow6 nD6)).mv fun z => r8.rp z, fun i hi s e => wipeE_un vs _ i hi s e, e2⟩
  · have e : i = ds.length := by omega
    subst e
    rw [List.drop_length] at e2
    cases e2
    refine .inl ⟨W.2 rfl, ?_⟩
    have hD0 : H Dd = none := by
      cases z : H Dd with
      | none => rfl
      | some o => exact absurd hD (r1.hsome Dd (by rw [z]; exact fun z => nomatch z))
    have nb0 := k1.nb hD
    exact q Dd ow2 H2 (k2.unwipe un2) (r1.trans r2) (fun z => nb0 (.inl z)) (fun z => k1.hod Dd z hD) nD hD0 ⟨xs, eD, rs⟩
theorem vd_dc {kx vx tg iter : Expr} {ifs : List Expr} {scope : Scope} {own : List (Str × Nat)} {pos : Pos} {fi : FL} {g : FG} {tt : FT} {tk te : FE} {ts vs : List Nat} (hc : X.calm = true) (hN : X.N.Nodup) (hi : VI X P tg iter fi) (ok : BlkOk X.N X.env.scope scope own)
    (hvs : own.map (·.2) = vs) (hvP : ∀ i ∈ vs, i ∉ P) (hts : ∀ i ∈ ts, i ∈ vs)
    (hg : ∀ (s : Shared) (H : Hp) (C : Addr) (cl : List (Str × Addr)) (fp : List Addr), VG (X.blk s H scope (compEnvC scope cl C X.env) fp) P tg ts g) (ht : ∀ (s : Shared) (H : Hp) (C : Addr) (cl : List (Str × Addr)) (fp : List Addr), VTs (X.blk s H scope (compEnvC scope cl C X.env) fp) P ifs tt)
    (hk : ∀ (s : Shared) (H : Hp) (C : Addr) (cl : List (Str × Addr)) (fp : List Addr), VE (X.blk s H scope (compEnvC scope cl C X.env) fp) P kx tk)
    (he : ∀ (s : Shared) (H : Hp) (C : Addr) (cl : List (Str × Addr)) (fp : List Addr), VE (X.blk s H scope (compEnvC scope cl C X.env) fp) P vx te) (hs : ∀ x, foldedSetIterable iter X.env x = pure x := by intro _; rfl) :
    VD X P (.DictComp kx vx [⟨tg, iter, ifs, 0⟩] scope pos) (dComp fi g tt tk te vs) :=
  PE.weak (pe_dc hc hN hi ok hg ht hk he hs) (by rw [hvs]; exact tvD_dc hvP hts)
end
end VL

namespace VL
open PySem PySem.Spec
open PyProof.Rows L2
section
variable {X : Cx} {P : Pl} {a e : Expr} {fa fb : FE} {pos apos cpos : Pos}
/-! ### l.index(n), of a list of numbers -/
def eIdx (f g : FE) : FE := fun en => match f en with
  | some (.list ds, en1) => match g en1 with
    | some (.int n, en2) => match intsOf ds with
      | some ns => match ns.findIdx? (fun m => decide (m = n)) with
        | some j => some (.int (j : Int), en2)
        | none => none
      | none => none
    | _ => none
  | _ => none
theorem ve_index (ha : VE X P a fa) (he : VE X P e fb)
    (hbase : attributeBase a "index" X.env (eval a X.env) = eval a X.env := by rfl)
    (hfew : ((backTo cpos (starEach [e] X.env)).all (fun x => !x.1) && (backToKw cpos (keywordEach [] X.env)).all (fun x => x.1.isSome)
      && decide ([e].length + ([] : List Keyword).length + (if ([] : List Keyword).isEmpty then 0 else 1) < 30)) = true := by rfl)
    (hline : (apos.endLine == cpos.line) = true := by rfl) (hst : starEach [e] X.env = (false, eval e X.env) :: starEach [] X.env := by rfl) (hplain : (backTo cpos (starEach [] X.env)).any (·.1) = false := by rfl) :
    VE X P (.Call (.Attribute a "index" apos) [e] [] cpos) (eIdx fa fb) :=
  PE.weak (pe_bm PySem.F.plainAttrs_list PySem.F.slot_list_index PySem.F.type_list_index mt_index ha (pa_cons he pa_nil hst) hbase hfew hline hst hplain) fun σ H Q h => by
    obtain ⟨Bf, ow, en, k, d, en', hf, q⟩ := h
    unfold eIdx at hf
    split at hf <;> first | cases hf | skip
    rename_i ds en1 h0
    split at hf <;> first | cases hf | skip
    rename_i n en2 h1
    split at hf <;> first | cases hf | skip
    rename_i ns hI
    split at hf <;> first | cases hf | skip
    rename_i j hJ
    refine ⟨Bf, ow, en, k, _, _, h0, fun v ow1 H1 k1 r1 p1 => ⟨(by
      cases p1 with
      | lst nb rd rs => exact .inl ⟨rfl, _, .inl rd⟩), Bf, ow1, en1, k1, _, _, h1, fun w ow2 H2 k2 r2 p2 => ?_⟩⟩
    have p3 := r2.rp p1
    rw [intsOf_eq hI] at p3
    cases p2
    cases p3 with
    | lst nb rd rs =>
      have hx := rp_ints rs
      subst hx
      rw [List.findIdx?_eq_some_iff_getElem] at hJ
      obtain ⟨hj, hj1, hj2⟩ := hJ
      have hj1 : ns[j] = n := of_decide_eq_true hj1
      refine ⟨_, ns.map V.int, .int n, j, .int n, rfl, rfl, .inl rd, rfl, ints_flat ns, ?_, ?_, fun m z' hm hz => ?_, q _ ow2 H2 k2 (r1.trans r2) (.int _)⟩
      · rw [List.getElem?_map, List.getElem?_eq_getElem hj, hj1]
        rfl
      · simp [eqV]
      · rw [List.getElem?_map, List.getElem?_eq_getElem (by omega)] at hz
        cases hz
        have := hj2 m hm
        simp only [decide_eq_true_eq] at this
        simp [eqV]
        exact this
end
end VL

namespace VL
open PySem PySem.Spec
open PyProof.Rows L2
/-! ### list(range(..)) -/
section
variable {X : Cx} {P : Pl}
def lRg1 (f : FE) : FL := fun en => match f en with
  | some (.int j, en1) => if 0 ≤ j ∧ j ≤ 1000 then some (rangeD 0 j.toNat, en1) else none
  | _ => none
def lRg2 (f g : FE) : FL := fun en => match f en with
  | some (.int i, en1) => match g en1 with
    | some (.int j, en2) => if (0 ≤ i ∧ i ≤ 1000) ∧ 0 ≤ j ∧ j ≤ 1000 then some (rangeD i (j - i).toNat, en2) else none
    | _ => none
  | _ => none
theorem rg_rp {H : Hp} {B : Addr → Prop} (a b : Int) : RpL H B (rangeD a (b - a).toNat) (rgV a b) := by
  have e1 : rangeD a (b - a).toNat = ((List.range (b - a).toNat).map fun i : Nat => a + (i : Int)).map .int := by
    unfold rangeD
    rw [List.map_map]
    rfl
  have e2 : rgV a b = ((List.range (b - a).toNat).map fun i : Nat => a + (i : Int)).map V.int := by
    unfold rgV
    rw [List.map_map]
    rfl
  rw [e1, e2]
  exact RpL.ofInts _
theorem vf_rg1 {a : Expr} {fa : FE} {p p2 q pos : Pos} (hc : X.calm = true) (hg : Gl X "list") (hm : X.mg "list" = none) (hg2 : Gl X "range") (hm2 : X.mg "range" = none) (ha : VE X P a fa)
    (na : starEach [a] X.env = (false, eval a X.env) :: starEach [] X.env := by rfl) : VF X P (.Call (.Name "list" p) [.Call (.Name "range" p2) [a] [] q] [] pos) (lRg1 fa) :=
  PE.weak (pe_listRg hc hg hm (prg_1 hg2 hm2 ha na)) fun σ H Q h => by
    obtain ⟨Bf, ow, en, k, d, en', hf, q⟩ := h
    unfold lRg1 at hf
    split at hf <;> first | cases hf | skip
    rename_i j en1 h1
    split at hf <;> first | cases hf | skip
    rename_i hj
    refine ⟨Bf, ow, en, k, _, _, h1, fun v ow1 H1 k1 r1 p1 => ?_⟩
    cases p1
    have e := rg_rp (H := H1) (B := blk Bf ow1) 0 j
    rw [Int.sub_zero] at e
    exact ⟨j, rfl, RgOk.of_le (by omega) (by omega) (by omega) (by omega), fun p hp => fresh_of (f := Q) k1 r1 hp e q⟩
theorem vf_rg2 {a b : Expr} {fa fb : FE} {p p2 q pos : Pos} (hc : X.calm = true) (hg : Gl X "list") (hm : X.mg "list" = none) (hg2 : Gl X "range") (hm2 : X.mg "range" = none) (ha : VE X P a fa) (hb : VE X P b fb)
    (na : starEach [a, b] X.env = (false, eval a X.env) :: starEach [b] X.env := by rfl) (nb : starEach [b] X.env = (false, eval b X.env) :: starEach [] X.env := by rfl) (hp : (backTo q (starEach [b] X.env)).any (·.1) = false := by rfl) :
    VF X P (.Call (.Name "list" p) [.Call (.Name "range" p2) [a, b] [] q] [] pos) (lRg2 fa fb) :=
  PE.weak (pe_listRg hc hg hm (prg_2 hg2 hm2 ha hb na nb hp)) fun σ H Q h => by
    obtain ⟨Bf, ow, en, k, d, en', hf, q⟩ := h
    unfold lRg2 at hf
    split at hf <;> first | cases hf | skip
    rename_i i en1 h1
    split at hf <;> first | cases hf | skip
    rename_i j en2 h2
    split at hf <;> first | cases hf | skip
    rename_i hj
    refine ⟨Bf, ow, en, k, _, _, h1, fun v ow1 H1 k1 r1 p1 => ⟨Bf, ow1, en1, k1, _, _, h2, fun u ow2 H2 k2 r2 p2 => ?_⟩⟩
    cases p1
    cases p2
    exact ⟨i, j, rfl, rfl, RgOk.of_le (by omega) (by omega) (by omega) (by omega), fun p hp => fresh_of (f := Q) k2 (r1.trans r2) hp (rg_rp i j) q⟩
end
end VL

namespace VL
open PySem PySem.Spec
open PyProof.Rows L2
/-! ### two dicts with tuples as keys, equal ones, compared -/
section
variable {prog : Program} {w : World} {K : Type} [DecidableEq K] {kn : HeapKind prog w K} {A : Around} {E : Value → Shared → Prop} {s : Shared}
theorem samePairs_T {nm : String} {a b : Addr} {xa xb : List (K × Addr × Value)} {Q : Bool → Shared → Prop} (na : (a == sysModules) = false) (nb : (b == sysModules) = false) (hu : kn.room A)
    (dA : s.heap.DictOfH kn a xa) (dB : s.heap.DictOfH kn b xb) (hl : xa.length = xb.length) (hex : ∀ x ∈ xa, ∃ (j : Nat) (p : Addr × Value), xb[j]? = some (x.1, p))
    (heq : ∀ x ∈ xa, ∀ (j : Nat) (p : Addr × Value), xb[j]? = some (x.1, p) → SeqAt.EqAt A s x.2.2 p.2 true) (q : Q true s) : wpAny (model prog w) A (Builtin.Dict.samePairs nm a b) Q E s := by
  obtain ⟨oa, ea, pa, g1, _, g2, g3, g4, g5⟩ := dA
  obtain ⟨ob, eb, pb, h1, _, h2, h3, h4, h5⟩ := dB
  have za := size_of_entries g3
  have zb := size_of_entries h3
  have zz : ea.size = eb.size := by rw [za, zb, hl]
  unfold Builtin.Dict.samePairs Builtin.Dict.showsAll
  rw [na, nb]
  refine wpAny_bind (wpAny_pure (wpAny_bind (wpAny_pure (wpAny_bind (wpAny_dictEntries g1 g2 ?_)))))
  refine wpAny_bind (wpAny_dictEntries h1 h2 ?_)
  rw [if_neg (show ¬ (ea.size != eb.size) = true by rw [zz]; simp)]
  refine wpAny_bind (wpAny_dictEpoch g1 g2 (wpAny_bind ?_))
  rw [Std.Legacy.Range.forIn_eq_forIn_range']
  simp only [Nat.div_one, Nat.add_sub_cancel, Nat.sub_zero, Std.Legacy.Range.size]
  refine wpAny_forIn_list _ (fun rest u t => t = s ∧ u = (none, ()) ∧ ∃ i, rest = List.range' i (ea.size - i) ∧ i ≤ ea.size) _ ?_ ?_ _ _ ⟨rfl, rfl, 0, by simp, Nat.zero_le _⟩
  · rintro x rest u t ⟨rfl, rfl, i, hr, hi⟩
    have hlt : i < ea.size := Decidable.byContradiction fun z => by
      rw [show ea.size - i = 0 by omega] at hr
      exact absurd hr (by simp)
    rw [show ea.size - i = (ea.size - (i + 1)) + 1 by omega, List.range'_succ] at hr
    injection hr with r1 r2
    subst r1
    have hx : x < xa.length := by omega
    have ex : ea[x]? = some (entryOfKey kn xa[x]) := by
      rw [entry_at g3 x, List.getElem?_eq_getElem hx]
      rfl
    obtain ⟨j, p, hj⟩ := hex xa[x] (List.getElem_mem hx)
    refine wpAny_bind (wpAny_dictEntries g1 g2 ?_)
    rw [ex]
    refine wpAny_bind (wpAny_holding (wpAny_bind (wpAny_dictFind_heap (k := xa[x].1) (a := xa[x].2.1) hu (g4 _ (List.getElem_mem hx)) h1 h2 h3 h4 h5 (fun z => absurd hj (z j p)) fun j' p' hj' => ?_)))
    have ey : eb[j']? = some (entryOfKey kn (xa[x].1, p')) := by
      rw [entry_at h3 j', hj']
      rfl
    refine wpAny_bind (wpAny_dictEntries h1 h2 ?_)
    rw [ey]
    refine wpAny_holding (heq xa[x] (List.getElem_mem hx) j' p' hj' prog w _ _ ?_)
    show wpAny _ _ (if (!true) = true then _ else _) _ _ _
    rw [if_neg (by decide)]
    refine wpAny_bind (wpAny_dictEpoch g1 g2 ?_)
    rw [if_neg (by simp)]
    exact wpAny_pure ⟨rfl, rfl, x + 1, r2, by omega⟩
  · rintro u t ⟨rfl, rfl, _⟩
    exact wpAny_pure q
theorem eq_T {a b : Addr} {xa xb : List (K × Addr × Value)} {Q : Value → Shared → Prop} (na : (a == sysModules) = false) (nb : (b == sysModules) = false) (hu : A.units < cLine) (hr : kn.room A.in1)
    (dA : s.heap.DictOfH kn a xa) (dB : s.heap.DictOfH kn b xb) (hl : xa.length = xb.length) (hex : ∀ x ∈ xa, ∃ (j : Nat) (p : Addr × Value), xb[j]? = some (x.1, p))
    (heq : ∀ x ∈ xa, ∀ (j : Nat) (p : Addr × Value), xb[j]? = some (x.1, p) → SeqAt.EqAt A.in1 s x.2.2 p.2 true) (q : Q (.bool true) s) : wpAny (model prog w) A (compareOp .Eq (.ref a) (.ref b)) Q E s := by
  refine wpAny_richCompare_same_room (op := .Eq) dA.typeIs dB.typeIs PySem.F.slot_dict_eq (wpAny_call_entry PySem.F.slot_dict_eq dA.typeIs PySem.F.entry_dict_eq ?_ (PySem.F.args_dict_eq_2 _ _)) hu
  refine wpAny_bind (m := Builtin.Dict.dictSlotArgs "__eq__" ⟨[.ref a, .ref b], []⟩) ?_
  unfold Builtin.Dict.dictSlotArgs
  refine wpAny_bind (wpAny_notOrdered_dict dA.typeIs (wpAny_pure ?_))
  refine wpAny_bind (wpAny_isInstance (T := "dict") dB.typeIs PySem.F.sub_dict_dict ?_)
  simp only [Bool.false_eq_true, Bool.not_true, if_false]
  exact wpAny_bind (wpAny_pure (wpAny_bind (wpAny_pure (wpAny_bind (samePairs_T na nb hr dA dB hl hex heq (wpAny_pure ⟨_, rfl, (fun x => nomatch x), by simpa using q⟩))))))
theorem ne_T {a b : Addr} {xa xb : List (K × Addr × Value)} {Q : Value → Shared → Prop} (na : (a == sysModules) = false) (nb : (b == sysModules) = false) (hu : A.units < cLine) (hr : kn.room A.in1)
    (dA : s.heap.DictOfH kn a xa) (dB : s.heap.DictOfH kn b xb) (hl : xa.length = xb.length) (hex : ∀ x ∈ xa, ∃ (j : Nat) (p : Addr × Value), xb[j]? = some (x.1, p))
    (heq : ∀ x ∈ xa, ∀ (j : Nat) (p : Addr × Value), xb[j]? = some (x.1, p) → SeqAt.EqAt A.in1 s x.2.2 p.2 true) (q : Q (.bool false) s) : wpAny (model prog w) A (compareOp .NotEq (.ref a) (.ref b)) Q E s := by
  refine wpAny_richCompare_same_room (op := .NotEq) dA.typeIs dB.typeIs PySem.F.slot_dict_ne (wpAny_call_entry PySem.F.slot_dict_ne dA.typeIs PySem.F.entry_dict_ne ?_ (PySem.F.args_dict_ne_2 _ _)) hu
  refine wpAny_bind (m := Builtin.Dict.dictSlotArgs "__ne__" ⟨[.ref a, .ref b], []⟩) ?_
  unfold Builtin.Dict.dictSlotArgs
  refine wpAny_bind (wpAny_notOrdered_dict dA.typeIs (wpAny_pure ?_))
  refine wpAny_bind (wpAny_isInstance (T := "dict") dB.typeIs PySem.F.sub_dict_dict ?_)
  simp only [Bool.false_eq_true, Bool.not_true, if_false]
  exact wpAny_bind (wpAny_pure (wpAny_bind (wpAny_pure (wpAny_bind (samePairs_T na nb hr dA dB hl hex heq (wpAny_pure ⟨_, rfl, (fun x => nomatch x), by simpa using q⟩))))))
end
theorem pairedR {α β : Type} {F : α → β → Prop} : ∀ {l : List α} {m : List β}, Paired F l m → ∀ y ∈ m, ∃ x ∈ l, F x y
  | _, _, .nil, _, z => nomatch z
  | _, _, .cons (a := a) r t, y, z => by
    rcases List.mem_cons.mp z with rfl | z
    · exact ⟨a, by simp, r⟩
    · obtain ⟨x, hx, h⟩ := pairedR t y z
      exact ⟨x, List.mem_cons_of_mem _ hx, h⟩
theorem pairedMap {α β κ : Type} {F : α → β → Prop} {f : α → κ} {g : β → κ} (hf : ∀ a b, F a b → f a = g b) : ∀ {l : List α} {m : List β}, Paired F l m → l.map f = m.map g
  | _, _, .nil => rfl
  | _, _, .cons r t => by rw [List.map_cons, List.map_cons, hf _ _ r, pairedMap hf t]
section
variable {X : Cx}
theorem T_hits {H : Hp} {A : Around} {s : Shared} {ks ls : List (List Key × V)} {xa xb : List (List Key × Addr × Value)} (ra : KT H ks xa) (rb : KT H ls xb) (nd : (xb.map (·.1)).Nodup) (hp : ∀ p ∈ ks, valV ls p.1 = some p.2 ∧ flatB p.2 = true) :
    (∀ x ∈ xa, ∃ (j : Nat) (p : Addr × Value), xb[j]? = some (x.1, p)) ∧ ∀ x ∈ xa, ∀ (j : Nat) (p : Addr × Value), xb[j]? = some (x.1, p) → SeqAt.EqAt A s x.2.2 p.2 true := by
  have nl : (ls.map (·.1)).Nodup := by
    rw [pairedMap (f := fun p : List Key × V => p.1) (g := fun x : List Key × Addr × Value => x.1) (fun _ _ h => h.1) rb]
    exact nd
  refine ⟨fun x hx => ?_, fun x hx j p hj => ?_⟩
  · obtain ⟨q, hq, e1, _, _⟩ := pairedR ra x hx
    obtain ⟨v1, _⟩ := hp q hq
    have hv := rb.val q.1
    rw [v1] at hv
    cases e : atKey xb q.1 with
    | none =>
      rw [e] at hv
      exact hv.elim
    | some pr =>
      unfold atKey at e
      cases f : xb.find? fun x => decide (x.1 = q.1) with
      | none => rw [f] at e; cases e
      | some y =>
        have h1 := List.find?_some f
        have h2 := List.mem_of_find?_eq_some f
        obtain ⟨j, hj, rfl⟩ := List.getElem_of_mem h2
        have h1 : xb[j].1 = q.1 := of_decide_eq_true h1
        refine ⟨j, xb[j].2, ?_⟩
        rw [List.getElem?_eq_getElem hj, ← e1, ← h1]
  · obtain ⟨q, hq, e1, _, r1⟩ := pairedR ra x hx
    obtain ⟨v1, f1⟩ := hp q hq
    obtain ⟨q', hq', e2, _, r2⟩ := pairedR rb (x.1, p) (List.mem_of_getElem? hj)
    have v2 := val_nodup nl q' hq'
    have e3 : q'.1 = q.1 := e2.trans e1.symm
    rw [e3, v1] at v2
    have v2 : q.2 = q'.2 := by injection v2
    rw [← v2] at r2
    exact eqAt_same r1 r2 f1
def rEqT (r : Bool) : R2 := fun x y H Q => ∃ a b ks ls, x = .ref a ∧ y = .ref b ∧ H a = some (.dT ks) ∧ H b = some (.dT ls) ∧ ks.length = ls.length ∧ (∀ p ∈ ks, valV ls p.1 = some p.2 ∧ flatB p.2 = true) ∧ Q (.bl r) H
theorem pairedLen {α β : Type} {F : α → β → Prop} : ∀ {l : List α} {m : List β}, Paired F l m → l.length = m.length
  | _, _, .nil => rfl
  | _, _, .cons _ t => by rw [List.length_cons, List.length_cons, pairedLen t]
theorem op_eqT (hu : X.A.units + 64 < cLine) : OpR X (compareOp .Eq) (rEqT true) := by
  intro pins s σ H x y v u Q I rx ry h
  obtain ⟨a, b, ks, ls, rfl, rfl, ea, eb, hl, hp, q⟩ := h
  cases rx
  cases ry
  obtain ⟨_, na, xa, ra, da⟩ := dt_of I.hok ea
  obtain ⟨_, nb, xb, rb, db⟩ := dt_of I.hok eb
  obtain ⟨g1, g2⟩ := T_hits (A := X.A.in1) (s := s) ra rb (let ⟨_, _, _, _, _, _, _, _, nn⟩ := db; nn) hp
  exact eq_T (kn := tupleKind (mixKind X.prog X.w)) na nb (by omega) (show X.A.in1.units < cLine by simp; omega) da db ((pairedLen ra).symm.trans (hl.trans (pairedLen rb))) g1 g2 (fin_bl I q rfl)
theorem op_neT (hu : X.A.units + 64 < cLine) : OpR X (compareOp .NotEq) (rEqT false) := by
  intro pins s σ H x y v u Q I rx ry h
  obtain ⟨a, b, ks, ls, rfl, rfl, ea, eb, hl, hp, q⟩ := h
  cases rx
  cases ry
  obtain ⟨_, na, xa, ra, da⟩ := dt_of I.hok ea
  obtain ⟨_, nb, xb, rb, db⟩ := dt_of I.hok eb
  obtain ⟨g1, g2⟩ := T_hits (A := X.A.in1) (s := s) ra rb (let ⟨_, _, _, _, _, _, _, _, nn⟩ := db; nn) hp
  exact ne_T (kn := tupleKind (mixKind X.prog X.w)) na nb (by omega) (show X.A.in1.units < cLine by simp; omega) da db ((pairedLen ra).symm.trans (hl.trans (pairedLen rb))) g1 g2 (fin_bl I q rfl)
end
/-! ### by data -/
section
variable {X : Cx} {P : Pl} {e : Expr} {pos : Pos}
/-- numbers at the same keys -/
def sameD (ks ls : DKV) : Bool := decide (ks.length = ls.length) && ks.all fun p => match p.2, valD ls p.1 with
  | .int a, some (.int b) => decide (a = b)
  | _, _ => false
def eEqD (neg : Bool) (i : Nat) (f : FDc) : FE := fun en => if isDc en[i]? then (match f en with
  | some (r, en1) => match en1[i]? with
    | some (.dc ⟨true, false⟩ ks) => if r.1 = true ∧ sameD ks r.2 = true then some (.bool (!neg), en1) else none
    | _ => none
  | none => none) else none
theorem sameD_val {H : Hp} {B B' : Addr → Prop} {ks ls : DKV} {vs us : List (List Key × V)} (h : sameD ks ls = true) (p1 : Paired (fun (p : List Key × D) (q : List Key × V) => p.1 = q.1 ∧ Rp H B p.2 q.2) ks vs) (p2 : Paired (fun (p : List Key × D) (q : List Key × V) => p.1 = q.1 ∧ Rp H B' p.2 q.2) ls us) :
    vs.length = us.length ∧ ∀ p ∈ vs, valV us p.1 = some p.2 ∧ flatB p.2 = true := by
  unfold sameD at h
  rw [Bool.and_eq_true, decide_eq_true_eq] at h
  refine ⟨by rw [← pairedLen p1, ← pairedLen p2]; exact h.1, fun p hp => ?_⟩
  obtain ⟨q, hq, e1, r1⟩ := pairedR p1 p hp
  obtain ⟨pk, pv⟩ := p
  dsimp only at e1 r1 ⊢
  have h2 := List.all_eq_true.mp h.2 q hq
  have hv := pr_val (f := fun k : List Key => k) (fun _ _ z => z) q.1 p2
  split at h2
  · rename_i a b ea eb
    have h2 : a = b := of_decide_eq_true h2
    rw [eb] at hv
    rw [ea] at r1
    cases r1
    rw [← e1]
    cases ev : valV us q.1 with
    | none =>
      rw [ev] at hv
      exact hv.elim
    | some v =>
      rw [ev] at hv
      have hv : Rp H B' (.int b) v := hv
      cases hv
      rw [h2]
      exact ⟨rfl, rfl⟩
  · cases h2
theorem eqD_core {neg : Bool} {f : FDc} {i : Nat} {x : Str} {p : Pos} (hN : X.N[i]? = some x) (σ : L2.St) (H : Hp) (Q : L2.VK) (h : tv P (eEqD neg i f) σ H Q) : ∃ v, σ[i]? = some (some v) ∧ tvD P f σ H fun y H2 => rEqT (!neg) v y H2 Q := by
  obtain ⟨Bf, ow, en, k, d, en', hf, q⟩ := h
  unfold eEqD at hf
  split at hf <;> first | cases hf | skip
  rename_i h0
  obtain ⟨t0, kvs0, e0⟩ := isDc_of h0
  obtain ⟨a, g1, g2, g3⟩ := k.hdc i t0 kvs0 e0
  split at hf <;> first | cases hf | skip
  rename_i r en1 h1
  split at hf <;> first | cases hf | skip
  rename_i ks h2
  split at hf <;> first | cases hf | skip
  rename_i hc
  obtain ⟨⟨t, ls⟩, hs⟩ : ∃ z : DR, z = r := ⟨r, rfl⟩
  subst hs
  obtain ⟨ht, hs⟩ := hc
  have ht : t = true := ht
  subst ht
  refine ⟨_, g2, Bf, ow, en, k, _, _, h1, fun pa ow1 H1 k1 r1 b1 b2 b3 b4 hd => ?_⟩
  obtain ⟨a', w1, w2, w3⟩ := k1.hdc i _ ks h2
  rw [g2] at w2
  cases w2
  obtain ⟨vs, c1, c2⟩ := w3
  obtain ⟨us, d1, d2⟩ := hd
  obtain ⟨l1, l2⟩ := sameD_val hs c2 d2
  exact ⟨a, pa, vs, us, rfl, rfl, c1, d1, l1, l2, q _ ow1 H1 k1.unins r1 (.bl _)⟩
theorem ve_eqD {f : FDc} {i : Nat} {x : Str} {p : Pos} (hu : X.A.units + 64 < cLine) (hN : X.N[i]? = some x) (he : VD X P e f) (hv : Vis X.env.scope x := by first | exact .inl rfl | exact .inr (.inl rfl) | exact .inr (.inr rfl))
    (hd : (x == ("__debug__" : Str)) = false := by decide) (hcd : (x == ("__classdict__" : Str)) = false := by decide) (hm : behindInMarks .Eq e = false := by rfl) : VE X P (.Compare (.Name x p) [.Eq] [e] pos) (eEqD false i f) :=
  PE.weak (pe_cmpR (op_eqT hu) (pe_var hN hv hd hcd) he hm) fun σ H Q h => eqD_core (p := p) hN σ H Q h
theorem vt_neD {f : FDc} {i : Nat} {x : Str} {p : Pos} (hu : X.A.units + 64 < cLine) (hN : X.N[i]? = some x) (he : VD X P e f) (hv : Vis X.env.scope x := by first | exact .inl rfl | exact .inr (.inl rfl) | exact .inr (.inr rfl))
    (hd : (x == ("__debug__" : Str)) = false := by decide) (hcd : (x == ("__classdict__" : Str)) = false := by decide) (hm : behindInMarks .NotEq e = false := by rfl) : VT X P (.Compare (.Name x p) [.NotEq] [e] pos) (fBool (eEqD true i f)) :=
  PT.weak (pt_cmpR (op_neT hu) (pe_var hN hv hd hcd) he hm) fun σ H Q h => eqD_core (p := p) hN σ H _ (tvT_bool σ H Q h)
/-! ### x = y of two dicts' names: the one is the other's from then on -/
def sMovD (P : List Nat) (i j : Nat) : FS := fun en => match en[j]? with
  | some (.dc ⟨t, false⟩ kvs) => if j ∉ P ∧ i ≠ j ∧ i < en.length then some (.nx ((en.set j .un).set i (.dc ⟨t, false⟩ kvs))) else none
  | _ => none
theorem vs_movD {i j : Nat} {x y : Str} {pos' p : Pos} (hN : X.N.Nodup) (hi : X.N[i]? = some x) (hj : X.N[j]? = some y) (hx : Loc X.env.scope x := by first | exact .inl rfl | exact .inr rfl) (hP : i ∉ P)
    (hv : Vis X.env.scope y := by first | exact .inl rfl | exact .inr (.inl rfl) | exact .inr (.inr rfl)) (hd : (y == ("__debug__" : Str)) = false := by decide) (hcd : (y == ("__classdict__" : Str)) = false := by decide)
    (hs : swapsWith (.Name y p) (some (.Name x pos')) pos.line X.env = pure false := by rfl)
    (hf : X.fn x = true ∨ X.env.scope.names.lookup x = some .local := by first | exact .inl rfl | exact .inr rfl | assumption) : VS X P (.Assign [.Name x pos'] (.Name y p) pos) (sMovD P.ps i j) :=
  PS.weak (ps_set hN hi hx (pe_var hj hv hd hcd) hs hf) fun Dn σ H h => by
    obtain ⟨Bf, ow, en, k, o, hf, q⟩ := h
    unfold sMovD at hf
    split at hf <;> first | cases hf | skip
    rename_i t kvs e0
    split at hf <;> first | cases hf | skip
    rename_i hc
    obtain ⟨hjP, hij, hil⟩ := hc
    obtain ⟨a, g1, k2, b1, b2, b3, ho⟩ := k.freeO hjP e0 rfl
    obtain ⟨a', w1, w2, _⟩ := k.hdc j _ kvs e0
    rw [g1] at w2
    cases w2
    have k3 := k2.putO (sl := .dc ⟨t, false⟩ kvs) rfl hP (by rw [List.length_set]; exact hil) b1 b2 b3 ho
    refine ⟨_, g1, q _ _ _ k3 ⟨fun b o e nt n => ⟨e, fun m z => ?_⟩, fun _ e => e, fun m hm => ?_, fun _ _ _ e => e, fun _ e => e⟩⟩
    · unfold putOw at z
      split at z
      · cases z
        exact n j w1
      · exact n m (dropOw_sub _ _ z)
    · unfold putOw dropOw
      rw [if_neg fun z => hP (by rw [← z]; exact hm), if_neg fun z => hjP (by rw [← z]; exact hm)]
end
end VL

namespace VL
open PySem PySem.Spec
open PyProof.Rows L2
/-! ### a list of two new lists, looked at and then written into -/
section
variable {X : Cx} {P : Pl} {a b e c0 c1 t : Expr} {es : List Expr} {gu : FUL} {pos apos cpos : Pos} {rs rest : List Stmt} {f g fr : FS}
def uCallL (n : Nat) (F : FFL) (g : FUL) : FUL := fun en => match g en with
  | some ds => if ds.length = n then (match F (ds.map Sl.va) with
    | some (l, _) => some l
    | none => none) else none
  | none => none
def tvN1 (P : Pl) (f : FUL) : TE := fun σ H Q => ∃ Bf ow en, Ok P Bf ow en σ H ∧ ∃ l, f en = some l ∧
  ∀ p xs H', Ok P Bf ow en σ H' → ExtT P.tb H H' → H p = none → H' p = some (.lst xs) → RpL H' NoB l xs → Q (.ref p) H'
def VN1 (X : Cx) (P : Pl) (e : Expr) (f : FUL) : Prop := PE X e (tvN1 P f)
theorem ok_args {Bf : Bk} {ow : Nat → Option Addr} {en : En} {σ : L2.St} {H1 : Hp} (k1 : Ok P Bf ow en σ H1) {ds : List VL.D} {vs : List V} (p1 : RpL H1 NoB ds vs) :
    Ok ⟨[], P.tb⟩ ⟨fun _ => False, fun _ => False⟩ (fun _ => none) (ds.map Sl.va) (vs.map some) H1 := by
  refine ⟨by simp [p1.length], fun j d e => ?_, fun j d e => ?_, fun j s e f => ?_, fun j a e => (nomatch e), fun j l a e _ => (nomatch e), fun b z => z.elim, fun b z => z.elim, fun j a e => (nomatch e), k1.htab⟩
  · rw [List.getElem?_map] at e
    cases em : ds[j]? with
    | none => rw [em] at e; cases e
    | some m =>
      rw [em] at e
      cases e
      obtain ⟨v, w1, w2⟩ := p1.get em
      exact ⟨v, by rw [List.getElem?_map, w1]; rfl, w2.move fun b o e _ _ => ⟨e, fun z => z.elim (fun z => z) fun ⟨_, z⟩ => nomatch z⟩⟩
  · rw [List.getElem?_map] at e
    cases em : ds[j]? with
    | none => rw [em] at e; cases e
    | some m => rw [em] at e; cases e
  · rw [List.getElem?_map] at e
    cases em : ds[j]? with
    | none => rw [em] at e; cases e
    | some m => rw [em] at e; cases e; cases f
theorem no_vn (ds : List VL.D) : ∀ (j : Nat) (d : VL.D), (ds.map Sl.va)[j]? ≠ some (Sl.vn d) := fun j d e => by
  rw [List.getElem?_map] at e
  cases em : ds[j]? with
  | none => rw [em] at e; cases e
  | some m => rw [em] at e; cases e
theorem vn1_call {x : Str} {k n : Nat} {ps : List Str} {F : FFL} {p : Pos} (D : Def X.prog X.w X.K X.mg X.base x k ps (spL ⟨[], P.tb⟩ n F)) (hr : Room k X.A) (hg : Gl X x) (ha : VUL X P (e :: es) gu)
    (hdb : (x == ("__debug__" : Str)) = false := by decide) (he : starEach (e :: es) X.env = (false, eval e X.env) :: starEach es X.env := by rfl) (hpl : (backTo pos (starEach es X.env)).any (·.1) = false := by rfl) :
    VN1 X P (.Call (.Name x p) (e :: es) [] pos) (uCallL n F gu) := by
  obtain ⟨f, fd, h1, h2, h3, h4, _⟩ := D.ex
  refine PE.weak (pe_call (E := fun _ _ _ => False) h4 hr hg h1 h2 h3 .nil pass0 ha hdb he hpl) fun σ H Q h => ?_
  obtain ⟨Bf, ow, en, k, l, hf, q⟩ := h
  unfold uCallL at hf
  split at hf <;> first | cases hf | skip
  rename_i ds g1
  split at hf <;> first | cases hf | skip
  rename_i hl
  split at hf <;> first | cases hf | skip
  rename_i l' as' hF
  refine ⟨Bf, ow, en, k, ds, g1, fun vs H1 k1 x1 p1 => ?_⟩
  show spL ⟨[], P.tb⟩ n F (vs ++ []) H1 Q _
  rw [List.append_nil]
  refine ⟨_, fun _ => none, _, by rw [List.length_map]; exact hl, ok_args k1 p1, (fun i a e => (nomatch e)), no_vn ds, _, as', hF, fun p xs H' af hp hp' rp => ?_⟩
  have ex : ExtT P.tb H1 H' := ⟨fun b o e t => af.keep b o e t fun j z => (nomatch z), af.dom, (fun _ => af.tab), af.ntk⟩
  have h0 : H p = none := by
    cases e : H p with
    | none => rfl
    | some o => rw [x1 p o e] at hp; cases hp
  exact q p xs H' (k1.extT ex) (x1.t.trans ex) h0 hp' rp.no
def uCallB (n : Nat) (F : FF) (g : FUL) : En → Option Bool := fun en => match g en with
  | some ds => if ds.length = n then (match F (ds.map Sl.va) with
    | some (.bool b, _) => some b
    | _ => none) else none
  | none => none
def tvB1 (P : Pl) (f : En → Option Bool) : TE := fun σ H Q => ∃ Bf ow en, Ok P Bf ow en σ H ∧ ∃ b, f en = some b ∧ ∀ H', Ok P Bf ow en σ H' → ExtT P.tb H H' → Q (.bl b) H'
def VB1 (X : Cx) (P : Pl) (e : Expr) (f : En → Option Bool) : Prop := PE X e (tvB1 P f)
theorem vb1_call {x : Str} {k n : Nat} {ps : List Str} {F : FF} {p : Pos} (D : Def X.prog X.w X.K X.mg X.base x k ps (spV ⟨[], P.tb⟩ n F)) (hr : Room k X.A) (hg : Gl X x) (ha : VUL X P (e :: es) gu)
    (hdb : (x == ("__debug__" : Str)) = false := by decide) (he : starEach (e :: es) X.env = (false, eval e X.env) :: starEach es X.env := by rfl) (hpl : (backTo pos (starEach es X.env)).any (·.1) = false := by rfl) :
    VB1 X P (.Call (.Name x p) (e :: es) [] pos) (uCallB n F gu) := by
  obtain ⟨f, fd, h1, h2, h3, h4, _⟩ := D.ex
  refine PE.weak (pe_call (E := fun _ _ _ => False) h4 hr hg h1 h2 h3 .nil pass0 ha hdb he hpl) fun σ H Q h => ?_
  obtain ⟨Bf, ow, en, k, l, hf, q⟩ := h
  unfold uCallB at hf
  split at hf <;> first | cases hf | skip
  rename_i ds g1
  split at hf <;> first | cases hf | skip
  rename_i hl
  split at hf <;> first | cases hf | skip
  rename_i b as' hF
  refine ⟨Bf, ow, en, k, ds, g1, fun vs H1 k1 x1 p1 => ?_⟩
  show spV ⟨[], P.tb⟩ n F (vs ++ []) H1 Q _
  rw [List.append_nil]
  refine ⟨_, fun _ => none, _, by rw [List.length_map]; exact hl, ok_args k1 p1, (fun i a e => (nomatch e)), no_vn ds, _, as', hF, fun v H' af p => ?_⟩
  have ex : ExtT P.tb H1 H' := ⟨fun b o e t => af.keep b o e t fun j z => (nomatch z), af.dom, (fun _ => af.tab), af.ntk⟩
  cases p
  exact q H' (k1.extT ex) (x1.t.trans ex)
/-- what is new is written: what stood, stands -/
theorem ExtT.wr {T : List (Addr × Str)} {H H1 : Hp} {a : Addr} {xs ys : List V} (x : ExtT T H H1) (h0 : H a = none) (e : H1 a = some (.lst xs)) : ExtT T H (upd H1 a (.lst ys)) := by
  refine ⟨fun b o h t => ?_, fun b h => ?_, fun h => tabs_upd (x.tab h) e (fun _ z => nomatch z) (fun _ z => nomatch z), fun b h => ?_⟩
  · rw [upd_ne fun z => by rw [z, h0] at h; cases h]
    exact x.keep b o h t
  · by_cases hb : b = a
    · rw [hb, upd_same]
      exact fun z => nomatch z
    · rw [upd_ne hb]
      exact x.dom b h
  · obtain ⟨o, g1, g2⟩ := x.ntk b h
    by_cases hb : b = a
    · exact ⟨.lst ys, by rw [hb]; exact upd_same, fun _ z => nomatch z⟩
    · exact ⟨o, by rw [upd_ne hb]; exact g1, g2⟩
def sTold (i : Nat) (f0 f1 : FUL) (fT : En → Option Bool) (fr g : FS) : FS := fun en => match f0 en with
  | some l0 => match f1 en with
    | some l1 => if i < en.length ∧ isOwnO en[i]? = false ∧ l0.all flatD = true ∧ l1.all flatD = true ∧ l0.length < sizeLine ∧ l1.length < sizeLine then (match fT (en.set i (.va (.list [.list l0, .list l1]))) with
      | some true => g (en.set i .un)
      | some false => (match fr (en.set i (.va (.list [.list l0, .list l1]))) with
        | some (.rt d en2) => some (.rt d en2)
        | _ => none)
      | none => none) else none
    | none => none
  | none => none
theorem two_le {x y : V} : ([x, y] : List V).length ≤ sizeLine := by
  show 2 ≤ sizeLine
  decide
theorem RpL.flats {H H' : Hp} {B B' : Addr → Prop} : ∀ {ds : List VL.D} {vs : List V}, RpL H B ds vs → ds.all flatD = true → RpL H' B' ds vs
  | _, _, .nil, _ => .nil
  | _, _, .cons r rs, f => by
    rw [List.all_cons, Bool.and_eq_true] at f
    exact .cons (r.flat f.1) (RpL.flats rs f.2)
theorem Ok.setU {Bf : Bk} {ow : Nat → Option Addr} {en : En} {σ : L2.St} {H : Hp} {i : Nat} {d : VL.D} {v : V} (k : Ok P Bf ow en σ H) (hP : i ∉ P) (p : Rp H (blk Bf ow) d v) (h : isOwnO en[i]? = false) : Ok P Bf ow (en.set i (.va d)) (σ.set i (some v)) H := by
  have hn : ow i = none := by
    cases e : ow i with
    | none => rfl
    | some a =>
      obtain ⟨s, e1, e2⟩ := k.hdom i a e
      rw [e1] at h
      have h' : isOwn s = false := h
      rw [h'] at e2
      cases e2
  have hd : dropOw ow i = ow := by
    funext j
    unfold dropOw
    split
    · rename_i hj
      rw [hj, hn]
    · rfl
  have := k.set (i := i) (d := d) (v := v) hP (by rw [hd]; exact p)
  rw [hd] at this
  exact this
theorem vb_told {i : Nat} {x : Str} {f0 f1 : FUL} {fT : En → Option Bool} {z0 z1 : Int} {j0 j1 j2 j3 : Nat} {q1 q2 q3 q4 q5 q6 q7 q8 q9 r1 r2 r3 r4 r5 r6 r7 r8 r9 : Pos} (hN : X.N.Nodup) (hi : X.N[i]? = some x) (hx : Loc X.env.scope x := by first | exact .inl rfl | exact .inr rfl) (hP : i ∉ P)
    (h0 : VN1 X P c0 f0) (h1 : VN1 X P c1 f1) (ht : VB1 X P t fT) (hrs : VB X P rs fr) (hrest : VB X P rest g) 
    (hv : Vis X.env.scope x := by first | exact .inl rfl | exact .inr (.inl rfl) | exact .inr (.inr rfl))
    (hd : (x == ("__debug__" : Str)) = false := by decide) (hcd : (x == ("__classdict__" : Str)) = false := by decide) (hf : X.fn x = true ∨ X.env.scope.names.lookup x = some .local := by first | exact .inl rfl | exact .inr rfl | assumption)
    (hst0 : starEach [c0, c1] X.env = (false, eval c0 X.env) :: starEach [c1] X.env := by rfl) (hst1 : starEach [c1] X.env = (false, eval c1 X.env) :: starEach [] X.env := by rfl)
    (hsw : swapsWith (.List [c0, c1] q2) (some (.Name x q1)) q3.line X.env = pure false := by rfl)
    (htt : ∀ whole, isTrue t X.env whole = (do let v ← whole; standAt t.pos; holding [v] (truthy v)) := by intro _; rfl)
    (hbase1 : attributeBase (.Subscript (.Name x q4) (.Constant (.int 0) j0 q5) q6) "append" X.env (eval (.Subscript (.Name x q4) (.Constant (.int 0) j0 q5) q6) X.env) = eval (.Subscript (.Name x q4) (.Constant (.int 0) j0 q5) q6) X.env := by rfl)
    (hbase2 : attributeBase (.Subscript (.Name x r4) (.Constant (.int 1) j2 r5) r6) "append" X.env (eval (.Subscript (.Name x r4) (.Constant (.int 1) j2 r5) r6) X.env) = eval (.Subscript (.Name x r4) (.Constant (.int 1) j2 r5) r6) X.env := by rfl)
    (hfew1 : ((backTo q9 (starEach [.Constant (.int z0) j1 q8] X.env)).all (fun x => !x.1) && (backToKw q9 (keywordEach [] X.env)).all (fun x => x.1.isSome)
      && decide ([(Expr.Constant (.int z0) j1 q8)].length + ([] : List Keyword).length + (if ([] : List Keyword).isEmpty then 0 else 1) < 30)) = true := by rfl)
    (hfew2 : ((backTo r9 (starEach [.Constant (.int z1) j3 r8] X.env)).all (fun x => !x.1) && (backToKw r9 (keywordEach [] X.env)).all (fun x => x.1.isSome)
      && decide ([(Expr.Constant (.int z1) j3 r8)].length + ([] : List Keyword).length + (if ([] : List Keyword).isEmpty then 0 else 1) < 30)) = true := by rfl)
    (hline1 : (q7.endLine == q9.line) = true := by rfl) (hline2 : (r7.endLine == r9.line) = true := by rfl)
    (hsa1 : starEach [.Constant (.int z0) j1 q8] X.env = (false, eval (.Constant (.int z0) j1 q8) X.env) :: starEach [] X.env := by rfl) (hpl1 : (backTo q9 (starEach [] X.env)).any (·.1) = false := by rfl)
    (hsa2 : starEach [.Constant (.int z1) j3 r8] X.env = (false, eval (.Constant (.int z1) j3 r8) X.env) :: starEach [] X.env := by rfl) (hpl2 : (backTo r9 (starEach [] X.env)).any (·.1) = false := by rfl)
    (hs1 : swapsWith (.Call (.Attribute (.Subscript (.Name x q4) (.Constant (.int 0) j0 q5) q6) "append" q7) [.Constant (.int z0) j1 q8] [] q9) none r1.line X.env = pure false := by rfl)
    (hs2 : swapsWith (.Call (.Attribute (.Subscript (.Name x r4) (.Constant (.int 1) j2 r5) r6) "append" r7) [.Constant (.int z1) j3 r8] [] r9) none r2.line X.env = pure false := by rfl)
    (hp0 : PlainIx (.Constant (.int 0) j0 q5) := by intro _ _; rfl) (hp1 : PlainIx (.Constant (.int 1) j2 r5) := by intro _ _; rfl) :
    VB X P (.Assign [.Name x q1] (.List [c0, c1] q2) q3 :: .If (.UnaryOp .Not t r3) rs [] pos :: .Expr (.Call (.Attribute (.Subscript (.Name x q4) (.Constant (.int 0) j0 q5) q6) "append" q7) [.Constant (.int z0) j1 q8] [] q9) r1
      :: .Expr (.Call (.Attribute (.Subscript (.Name x r4) (.Constant (.int 1) j2 r5) r6) "append" r7) [.Constant (.int z1) j3 r8] [] r9) r2 :: rest) (sTold i f0 f1 fT fr g) :=
  PSs.weak (pss_cons (ps_set hN hi hx (pe_lst (pa_cons h0 (pa_cons h1 pa_nil hst1) hst0)) hsw hf) (pss_cons (ps_if (pt_not (pt_truth ht htt)) hrs pss_nil)
    (pss_cons (ps_expr (pe_bm PySem.F.plainAttrs_list PySem.F.slot_list_append PySem.F.type_list_append mt_append (pe_ix ix_seq (pe_var hi hv hd hcd) pe_int hp0) (pa_cons pe_int pa_nil hsa1) hbase1 hfew1 hline1 hsa1 hpl1) hs1)
    (pss_cons (ps_expr (pe_bm PySem.F.plainAttrs_list PySem.F.slot_list_append PySem.F.type_list_append mt_append (pe_ix ix_seq (pe_var hi hv hd hcd) pe_int hp1) (pa_cons pe_int pa_nil hsa2) hbase2 hfew2 hline2 hsa2 hpl2) hs2) hrest)))) fun Dn σ H h => by
    obtain ⟨Bf, ow, en, k, o, hfe, q⟩ := h
    unfold sTold at hfe
    split at hfe <;> first | cases hfe | skip
    rename_i l0 e0
    split at hfe <;> first | cases hfe | skip
    rename_i l1 e1
    split at hfe <;> first | cases hfe | skip
    rename_i hcnd
    obtain ⟨hil, hnow, hfl0, hfl1, hz0, hz1⟩ := hcnd
    refine ⟨Bf, ow, en, k, l0, e0, fun a0 xs0 H1 k1 x1 n0 ea0 p0 => ⟨Bf, ow, en, k1, l1, e1, fun a1 xs1 H2 k2 x2 n1 ea1 p1 => ⟨two_le, fun p np => ?_⟩⟩⟩
    have ne10 : a1 ≠ a0 := fun z => by
      rw [z, ea0] at n1
      cases n1
    have ea0' : H2 a0 = some (.lst xs0) := x2.keep _ _ ea0 fun _ z => nomatch z
    have nep0 : p ≠ a0 := fun z => by
      rw [z, ea0'] at np
      cases np
    have nep1 : p ≠ a1 := fun z => by
      rw [z, ea1] at np
      cases np
    have x2' : ExtT P.tb H H2 := x1.trans x2
    have n1' : H a1 = none := by
      cases e : H a1 with
      | none => rfl
      | some o => exact absurd n1 (x1.dom a1 (by rw [e]; exact fun z => nomatch z))
    have np' : H p = none := by
      cases e : H p with
      | none => rfl
      | some o => exact absurd np (x2'.dom p (by rw [e]; exact fun z => nomatch z))
    have x3 : ExtT P.tb H (upd H2 p (.lst [.ref a0, .ref a1])) := x2'.trans (Ext.upd np).t
    have k3 : Ok P Bf ow en σ (upd H2 p (.lst [.ref a0, .ref a1])) := k.extT x3
    have f0' : (upd H2 p (.lst [.ref a0, .ref a1])) a0 = some (.lst xs0) := by rw [upd_ne nep0.symm]; exact ea0'
    have f1' : (upd H2 p (.lst [.ref a0, .ref a1])) a1 = some (.lst xs1) := by rw [upd_ne nep1.symm]; exact ea1
    have rp : Rp (upd H2 p (.lst [.ref a0, .ref a1])) (blk Bf ow) (.list [.list l0, .list l1]) (.ref p) :=
      .lst (k.nb np') (.inl upd_same) (.cons (.lst (k.nb n0) (.inl f0') (p0.flats hfl0)) (.cons (.lst (k.nb n1') (.inl f1') (p1.flats hfl1)) .nil))
    have k4 := k3.setU hP rp hnow
    have hsi : (σ.set i (some (.ref p)))[i]? = some (some (.ref p)) := List.getElem?_set_self (by rw [k.hlen]; exact hil)
    have hsn : ∀ l, l ≠ i → (σ.set i (some (.ref p)))[l]? = σ[l]? := fun l hl => List.getElem?_set_ne (Ne.symm hl)
    split at hfe <;> first | cases hfe | skip
    · rename_i eT
      refine ⟨Bf, ow, _, k4, true, eT, fun H5 k5 x5 => ⟨true, rfl, ?_⟩⟩
      have g0 := x5.keep _ _ f0' fun _ z => nomatch z
      have g1 := x5.keep _ _ f1' fun _ z => nomatch z
      have gp := x5.keep _ _ (upd_same : (upd H2 p (.lst [.ref a0, .ref a1])) p = some (.lst [.ref a0, .ref a1])) fun _ z => nomatch z
      have l0e := p0.length
      have l1e := p1.length
      refine ⟨_, hsi, .inl ⟨p, _, 0, .ref a0, rfl, rfl, SqL.of gp, rfl, .inl ⟨rfl, _, SqL.of g0⟩, a0, xs0, _, rfl, rfl, g0, by omega, ?_⟩⟩
      refine ⟨_, hsi, .inl ⟨p, _, 1, .ref a1, rfl, rfl, SqL.of (by rw [upd_ne nep0]; exact gp), rfl, .inl ⟨rfl, _, SqL.of (by rw [upd_ne ne10]; exact g1)⟩, a1, xs1, _, rfl, rfl, by rw [upd_ne ne10]; exact g1, by omega, ?_⟩⟩
      have x6 : ExtT P.tb H (upd H5 a0 (.lst (xs0 ++ [.int z0]))) := (x3.trans x5).wr n0 g0
      have x7 := x6.wr (ys := xs1 ++ [.int z1]) n1' (by rw [upd_ne ne10]; exact g1)
      exact ⟨Bf, ow, _, (k.extT x7).unset hnow (by rw [List.length_set]) hsn, o, hfe, q.trans x7.rel.s⟩
    · rename_i eT
      refine ⟨Bf, ow, _, k4, false, eT, fun H5 k5 x5 => ⟨false, rfl, ?_⟩⟩
      split at hfe <;> first | cases hfe | skip
      rename_i hfr
      exact ⟨Bf, ow, _, k5, _, hfr, post.trans (P := P) (Bf := Bf) (Dn := Dn) (o := .rt _ _) q (x3.trans x5).rel.s⟩
end
end VL

namespace VL
open PySem PySem.Spec
open PyProof.Rows L2
/-! ### >= of two pairs of ints -/
def geP (a b c d : Int) : Bool := if a = c then decide (d ≤ b) else decide (c ≤ a)
def rGe2 (K : PySem.W.Frag) : R2 := fun x y H Q => ∃ p q n1 n2 m1 m2, x = .ref p ∧ y = .ref q ∧ SqT K H p [.int n1, .int n2] ∧ SqT K H q [.int m1, .int m2] ∧ Q (.bl (geP n1 n2 m1 m2)) H
theorem op_ge2 {X : Cx} (hu : X.A.units < cLine) : OpR X (compareOp .GtE) (rGe2 X.K) := by
  intro pins s σ H x y v u Q I rx ry h
  obtain ⟨a, b, n1, n2, m1, m2, rfl, rfl, ha, hb, q⟩ := h
  cases rx
  cases ry
  obtain ⟨its, r1, p1, _⟩ := I.tuple ha
  obtain ⟨its2, r2, p2, _⟩ := I.tuple hb
  cases r1 with
  | cons a1 r1 =>
    cases r1 with
    | cons a2 r1 =>
      cases r1
      cases r2 with
      | cons b1 r2 =>
        cases r2 with
        | cons b2 r2 =>
          cases r2
          obtain ⟨t1, rfl⟩ := a1
          obtain ⟨t2, rfl⟩ := a2
          obtain ⟨t3, rfl⟩ := b1
          obtain ⟨t4, rfl⟩ := b2
          refine Ob.RcOp.tuples_ge (e := fun j => if j = 0 then n1 == m1 else n2 == m2) (r := fun j => if j = 0 then decide (m1 ≤ n1) else decide (m2 ≤ n2)) p1 p2 hu (fun j h1 h2 => ?_) (fun j h1 h2 _ => ?_) X.prog X.w _ _ ?_
          · match j, h1 with
            | 0, _ => exact SeqAt.EqAt.int_int _ _ _ _
            | 1, _ => exact SeqAt.EqAt.int_int _ _ _ _
            | j + 2, h1 => exact absurd h1 (by simp)
          · match j, h1 with
            | 0, _ => exact Ob.RcOp.ge_int _ _ _ _
            | 1, _ => exact Ob.RcOp.ge_int _ _ _ _
            | j + 2, h1 => exact absurd h1 (by simp)
          · refine ⟨.bl (geP n1 n2 m1 m2), H, I, ?_, q⟩
            have : geP n1 n2 m1 m2 = Ob.lexAt (fun j => if j = 0 then n1 == m1 else n2 == m2) (fun j => if j = 0 then decide (m1 ≤ n1) else decide (m2 ≤ n2)) true 0 2 := by
              rw [Ob.lexAt_succ, Ob.lexAt_succ, Ob.lexAt_zero]
              unfold geP
              by_cases h1 : n1 = m1
              · subst h1
                by_cases h2 : n2 = m2
                · subst h2
                  simp
                · simp [h2]
              · simp [h1]
            rw [this]
            exact rfl
def gGe2 : D → D → Option D
  | .tuple [.int a, .int b], .tuple [.int c, .int d] => some (.bool (geP a b c d))
  | _, _ => none
theorem ov_ge2 {K : PySem.W.Frag} : OpV (rGe2 K) gGe2 := by
  intro H B d1 d2 d v1 v2 Q e p1 p2 nb q
  unfold gGe2 at e
  split at e
  · cases e
    cases p1 with
    | tup b1 r1 s1 =>
      cases p2 with
      | tup b2 r2 s2 =>
        cases s1 with
        | cons x1 s1 =>
          cases s1 with
          | cons x2 s1 =>
            cases s1
            cases s2 with
            | cons y1 s2 =>
              cases s2 with
              | cons y2 s2 =>
                cases s2
                cases x1
                cases x2
                cases y1
                cases y2
                exact ⟨_, _, _, _, _, _, rfl, rfl, SqT.of r1, SqT.of r2, q _ H .refl (.bl _)⟩
  · cases e
end VL

namespace VL
open PySem PySem.Spec
open PyProof.Rows L2
/-! ### {(a, b): v for ..}: keys that are tuples -/
theorem set_keyT {X : Cx} {pins : List (Addr × Obj)} {σ : L2.St} {H : Hp} {s : Shared} {E : Value → Shared → Prop} {d b : Addr} {ks : List (List Key × V)} {k : List Key} {y : V} {r : Value} {Q : Unit → Shared → Prop} (hu : X.A.units < cLine) (I : Inv X pins σ H s) (eD : H d = some (.dT ks)) (eb : H b = some (.tup (k.map kV))) (hlt : ks.length < sizeLine)
    (rv : RelV y r) (fin : ∀ s', Inv X pins σ (upd H d (.dT (putK ks k y))) s' → Q () s') : wpAny (model X.prog X.w) X.A (dictSet d (.ref b) r) Q E s := by
  obtain ⟨z1, z2, xs, rel, dd⟩ := dt_of I.hok eD
  have few : xs.length ≤ sizeLine := by
    rw [← Paired.length rel]
    exact z1
  have more : (putK ks k y).length ≤ sizeLine := Nat.le_trans (length_putK ks k y) hlt
  refine wpAny_dictSet_heap (show (tupleKind (mixKind X.prog X.w)).room X.A from hu) (key_of I.hok eb) dd (fun h2 d2 same => fin _ ?_) few
  obtain ⟨o, es, ep, g1, g2, g3, g4, _, g5⟩ := d2
  have stay : ∀ c ys, H c = some (.tup ys) → upd H d (.dT (putK ks k y)) c = some (.tup ys) := fun c ys ec => by
    rw [upd_ne fun w => by rw [w, eD] at ec; cases ec]
    exact ec
  exact d_write I (by rw [eD]; exact True.intro) same ⟨o, g1⟩ ⟨more, z2, _, (rel.put k eb rv).keeps stay, o, es, ep, g1, g2, g3, g4, g5⟩
section
variable {X : Cx}
/-- what one turn asks of the key and the value -/
def turnT (D : Addr) (tk tv : TE) (σ : L2.St) (Nx : Hp → Prop) (H : Hp) : Prop := tk σ H fun y H4 => tv σ H4 fun z H5 => ∃ ks k b, y = .ref b ∧ H5 b = some (.tup (k.map kV)) ∧ H5 D = some (.dT ks) ∧ ks.length < sizeLine ∧ Nx (upd H5 D (.dT (putK ks k z)))
def tDcT (wi : TI) (g : TG) (tt : TT) (tk tv : TE) (vs : List Nat) : TE := fun σ H Q => wi σ H fun J H1 => ∀ D, H1 D = none → ∃ W : Nat → Nat → Hp → Prop, (∃ m, W 0 m (upd H1 D (.dT []))) ∧ ∀ i m H, W i m H →
  (J.stop i H ∧ Q (.ref D) H) ∨ (J.go i H ∧ ∃ Nx : Hp → Prop, (∀ H', Nx H' → ∃ m', m' < m ∧ W (i + 1) m' H') ∧ ∀ x H', J.yld i H x H' → g x (L2.wipe σ vs) H' fun σ2 H2 => L2.wipe σ2 vs = L2.wipe σ vs ∧ tt σ2 H2 fun b H3 =>
    if b = true then turnT D tk tv σ2 Nx H3 else Nx H3)
theorem pe_dcT (hu : X.A.units < cLine) {kx vx tg iter : Expr} {ifs : List Expr} {scope : Scope} {own : List (Str × Nat)} {pos : Pos} {wi : TI} {g : TG} {tt : TT} {tk tv : TE} (hc : X.calm = true) (hN : X.N.Nodup) (hi : PI X tg iter wi) (ok : BlkOk X.N X.env.scope scope own)
    (hg : ∀ (s : Shared) (H : Hp) (C : Addr) (cl : List (Str × Addr)) (fp : List Addr), PG (X.blk s H scope (compEnvC scope cl C X.env) fp) tg g) (ht : ∀ (s : Shared) (H : Hp) (C : Addr) (cl : List (Str × Addr)) (fp : List Addr), PTs (X.blk s H scope (compEnvC scope cl C X.env) fp) ifs tt)
    (hk : ∀ (s : Shared) (H : Hp) (C : Addr) (cl : List (Str × Addr)) (fp : List Addr), PE (X.blk s H scope (compEnvC scope cl C X.env) fp) kx tk)
    (he : ∀ (s : Shared) (H : Hp) (C : Addr) (cl : List (Str × Addr)) (fp : List Addr), PE (X.blk s H scope (compEnvC scope cl C X.env) fp) vx tv) (hs : ∀ x, foldedSetIterable iter X.env x = pure x := by intro _; rfl) :
    PE X (.DictComp kx vx [⟨tg, iter, ifs, 0⟩] scope pos) (tDcT wi g tt tk tv (own.map (·.2))) := by
  refine ⟨fun pins s σ H Q I h => ?_⟩
  rw [arm_eval_DictComp]
  have cells : ∀ y ∈ scope.names, y.2 = .free → ∃ c, X.env.cells.lookup y.1 = some c := fun y hy ey => (ok.free y hy ey).elim (fun w => I.ok.has _ (.inl w)) fun w => I.ok.has _ (.inr w)
  refine wpAny_comprehension_free (use := none) rfl hs (closure_ok cells) ok.kind (fun y hy ey => by rw [ok.uniq y hy, ey])
    (thn (hi.run pins s σ H _ I h) fun v1 t1 hv => thn hv fun v2 t2 hv2 => ?_)
  obtain ⟨it, fp, tn, J, H2, rfl, I2, T, st2, f2, q⟩ := hv2
  refine wpAny_newObj_type (newEnv_comp ?_)
  generalize eD : t2.heap.objs.size = D
  obtain ⟨W, ⟨m0, w0⟩, turn⟩ := q D (I2.hok.fresh (Nat.le_of_eq eD))
  generalize e3 : ({ t2 with heap := t2.heap.push { cls := .type "dict", data := .dict #[] } } : Shared) = t3
  have I3 : Inv X pins σ (upd H2 D (.dT [])) t3 := by
    subst e3
    refine I2.laid (t' := t2.toks) (fun b o e => Heap.get?_push_of_some _ e) (Nat.le_of_eq eD) ?_
    subst eD
    exact dt_empty t2.heap I2.big
  have p3 : t3.heap = t2.heap.push { cls := .type "dict", data := .dict #[] } := by subst e3; rfl
  have f3 : ∀ b ∈ fp, FpOk X pins (upd H2 D (.dT [])) b ∧ b < t3.heap.objs.size := fun b hb => by
    obtain ⟨o, eo, _⟩ := T.obj _ _ st2 b hb
    have lt := Heap.lt_size eo
    refine ⟨⟨?_, (f2 b hb).2⟩, ?_⟩
    · rw [upd_ne (by subst eD; exact Nat.ne_of_lt lt)]
      exact (f2 b hb).1
    · rw [p3, Heap.size_push]
      exact Nat.lt_succ_of_lt lt
  have st3 : tn 0 t3.heap := T.keep _ _ _ st2 fun b _ o eo => by
    rw [p3]
    exact Heap.get?_push_of_some _ eo
  have I4 := block_start I3 ok hN f3
  have pg := hg t3 (upd H2 D (.dT [])) t3.heap.objs.size (cellsFrom (t3.heap.objs.size + 1) scope.names (cloFrom X.env.cells scope.names [])) fp
  have pt := ht t3 (upd H2 D (.dT [])) t3.heap.objs.size (cellsFrom (t3.heap.objs.size + 1) scope.names (cloFrom X.env.cells scope.names [])) fp
  have pk := hk t3 (upd H2 D (.dT [])) t3.heap.objs.size (cellsFrom (t3.heap.objs.size + 1) scope.names (cloFrom X.env.cells scope.names [])) fp
  have pe := he t3 (upd H2 D (.dT [])) t3.heap.objs.size (cellsFrom (t3.heap.objs.size + 1) scope.names (cloFrom X.env.cells scope.names [])) fp
  have fpn : ∀ b ∈ fp, (upd H2 D (.dT [])) b = none := fun b hb => (f3 b hb).1.1
  show codeAny _ _ (.compStart (.DictComp kx vx [⟨tg, iter, ifs, 0⟩] scope pos) 0 (.ref it) (.ref D) (compEnvC scope (cellsFrom (t3.heap.objs.size + 1) scope.names (cloFrom X.env.cells scope.names [])) t3.heap.objs.size X.env)) (compPost (model X.prog X.w) X.A X.xe none (EP X pins σ Q) (.ref D) t3.heap.objs.size) { t3 with heap := pushCells (t3.heap.push { cls := .type "dict", data := .dict #[] }) scope.names }
  generalize hce : compEnvC scope (cellsFrom (t3.heap.objs.size + 1) scope.names (cloFrom X.env.cells scope.names [])) t3.heap.objs.size X.env = ce at I4 pg pt pk pe ⊢
  have atC : ce.locals = t3.heap.objs.size := by subst hce; rfl
  generalize eH : upd H2 D (.dT []) = H3 at I3 I4 pg pt pk pe w0 fpn f3
  generalize e4 : ({ t3 with heap := pushCells (t3.heap.push { cls := .type "dict", data := .dict #[] }) scope.names } : Shared) = t4 at I4 ⊢
  have st4 : tn 0 t4.heap := T.keep _ _ _ st3 fun b _ o eo => by
    subst e4
    exact pushCells_keeps _ _ _ _ (Heap.get?_push_of_some _ eo)
  have apart : ∀ {σ' : L2.St} {H' : Hp} {s' : Shared}, Inv (X.blk t3 H3 scope ce fp) [] σ' H' s' → (∀ b ∈ fp, H' b = none) → ∀ b ∈ fp, FpOk (X.blk t3 H3 scope ce fp) [] H' b := fun {σ' H' s'} J' none b hb =>
    ⟨none b hb, (J'.ok.exf b hb).1, J'.ok.exfs b hb, .inl hb, fun x c e => (J'.ok.exf b hb).2 x c e, fun p hp => absurd (show p ∈ ([] : List (Addr × Obj)) ++ [] from hp) (by simp)⟩
  have loop : codeAny (model X.prog X.w) X.A (.compLoop (.DictComp kx vx [⟨tg, iter, ifs, 0⟩] scope pos) 0 (.ref it) (.ref D) ce) (compPost (model X.prog X.w) X.A X.xe none (EP X pins σ Q) (.ref D) t3.heap.objs.size) t4 := by
    refine compLoop_anyD (fun n u => ∃ i H', Inv (X.blk t3 H3 scope ce fp) [] (L2.wipe σ (own.map (·.2))) H' u ∧ tn i u.heap ∧ (∀ b ∈ fp, H' b = none) ∧ W i n H') ?_ m0 ⟨0, H3, I4, st4, fpn, w0⟩
    rintro n u ⟨i, H5, I5, st5, n5, w5⟩
    rcases turn i n H5 w5 with ⟨stop, end0⟩ | ⟨go, Nx, next, step⟩
    · refine thnF (T.done (X.blk t3 H3 scope ce fp) rfl rfl rfl hc i [] u _ H5 (fun _ _ => False) I5 (apart I5 n5) st5 stop) fun r u6 ⟨er, I6⟩ => ?_
      subst er
      have I7 : Inv X pins σ H5 u6 := I3.call' (ch := fp) I6.os I6.base I6.hok I6.bare fun b hb => by
        obtain ⟨_, a1, _, a3, a4, a5⟩ := (f3 b hb).1
        exact ⟨a3, a1, a4, a5⟩
      obtain ⟨m, hm, _⟩ := I6.loc
      have hm : u6.heap.Ns ce.locals m := hm
      have nC : H5 ce.locals = none := I6.free
      rw [atC] at hm nC
      refine ⟨m, hm, fun h'' sb => ?_⟩
      obtain ⟨b0, b1, _, b3, b4, b5⟩ := I3.fpOk (Nat.le_refl _) nC
      exact ⟨.ref D, H5, I7.turned (t' := u6.toks) (fun b o hb e => (sb.2 b hb).trans e) b0 b1 b3 b4 b5, rfl, end0⟩
    · refine thnF (T.item (X.blk t3 H3 scope ce fp) rfl rfl rfl hc i [] u _ H5 (fun _ _ => False) I5 (apart I5 n5) st5 go) fun r u6 ⟨w, er, h6⟩ => ?_
      subst er
      refine thnF h6 fun _ u7 ⟨x, H7, I7, r7, y7, st7, n7⟩ => ?_
      have I7p := I7.pinned (apart I7 n7) (T.obj _ _ st7)
      refine thnF (pg.run _ u7 _ H7 x w _ I7p r7 (step x H7 y7)) fun _ u8 ⟨σ8, H8, I8, wp, q8⟩ => ?_
      refine thnF (pt.run _ u8 σ8 H8 _ I8 q8) fun b u9 ⟨H9, I9, q9⟩ => ?_
      have back : ∀ {u' : Shared} {H' : Hp}, Inv (X.blk t3 H3 scope ce fp) ([] ++ pinsAt fp u7.heap) σ8 H' u' → Nx H' → ∃ m, m < n ∧ ∃ i H', Inv (X.blk t3 H3 scope ce fp) [] (L2.wipe σ (own.map (·.2))) H' u' ∧ tn i u'.heap ∧ (∀ b ∈ fp, H' b = none) ∧ W i m H' := fun {u' H'} J' nx => by
        obtain ⟨m', lt, w'⟩ := next H' nx
        have pinned : ∀ b ∈ fp, ∀ o, u7.heap.get? b = some o → u'.heap.get? b = some o ∧ H' b = none := fun b hb o eo => by
          obtain ⟨z1, z2, _⟩ := J'.pin (b, o) (List.mem_append_right _ (List.mem_append_right _ (mem_pinsAt hb eo)))
          exact ⟨z1, z2⟩
        have same : (L2.wipe σ (own.map (·.2))).length = σ8.length := by
          rw [← wp, L2.wipe_length]
        refine ⟨m', lt, i + 1, H', (J'.unpinned (pins := [])).weak same (fun j v ev => ?_), T.keep _ _ _ st7 fun b hb o eo => (pinned b hb o eo).1, fun b hb => ?_, w'⟩
        · rw [← wp] at ev
          exact (L2.wipe_some ev).1
        · obtain ⟨o, eo, _⟩ := T.obj _ _ st7 b hb
          exact (pinned b hb o eo).2
      cases b with
      | false =>
        rw [if_neg (by decide)] at q9 ⊢
        exact back I9 q9
      | true =>
        rw [if_pos rfl] at q9 ⊢
        refine thnF (pk.run _ u9 σ8 H9 _ I9 q9) fun z u10 ⟨yk, H10, I10, r10, q10⟩ => ?_
        refine thnF (pe.run _ u10 σ8 H10 _ I10 q10) fun z2 u11 ⟨yv, H11, I11, r11, ks, k, b, ek, eb, eD11, hz, nx⟩ => ?_
        subst ek
        cases (show z = Value.ref b from r10)
        exact set_keyT (X := X.blk t3 H3 scope ce fp) hu I11 eD11 eb hz r11 fun u12 I12 => back I12 nx
  exact codeAny_compStart_dict loop (T.self X.A 0 _ _ _ st4 loop)
variable {P : Pl}
def compT (g : FG) (tt : FT) (tk te : FE) (vs : List Nat) : List D → En → DKV → Option (DKV × En)
  | [], en, acc => some (acc, en)
  | d :: r, en, acc => match g d en with
    | some en1 => match tt en1 with
      | some (true, en2) => match tk en2 with
        | some (kd, en3) => match te en3 with
          | some (y, en4) => match keyD true kd with
            | some k => if acc.length < sizeLine then compT g tt tk te vs r (wipeE en4 vs) (putD acc k y) else none
            | none => none
          | none => none
        | none => none
      | some (false, en2) => compT g tt tk te vs r (wipeE en2 vs) acc
      | none => none
    | none => none
def dCompT (fi : FL) (g : FG) (tt : FT) (tk te : FE) (vs : List Nat) : FDc := fun en => match fi en with
  | some (ds, en1) => match compT g tt tk te vs ds (wipeE en1 vs) [] with
    | some (acc, en2) => some ((true, acc), en2)
    | none => none
  | none => none
abbrev PrT (H : Hp) (B : Addr → Prop) (acc : DKV) (ks : List (List Key × V)) : Prop := Paired (fun (p : List Key × D) (q : List Key × V) => p.1 = q.1 ∧ Rp H B p.2 q.2) acc ks
theorem PrT.mv {H H' : Hp} {B B' : Addr → Prop} {acc : DKV} {ks : List (List Key × V)} (h : PrT H B acc ks) (k : ∀ {d : D} {v : V}, Rp H B d v → Rp H' B' d v) : PrT H' B' acc ks := Paired.mapP h fun p q z => ⟨z.1, k z.2⟩
theorem tvD_dcT {fi : FL} {g : FG} {tt : FT} {tk te : FE} {vs ts : List Nat} (hvP : ∀ i ∈ vs, i ∉ P) (hts : ∀ i ∈ ts, i ∈ vs) (σ : L2.St) (H : Hp) (Q : L2.VK) (h : tvD P (dCompT fi g tt tk te vs) σ H Q) : tDcT (tvI P fi) (tvG P ts g) (tvT P tt) (tv P tk) (tv P te) vs σ H Q := by
  obtain ⟨Bf, ow, en, k, out, en', hf, q⟩ := h
  unfold dCompT at hf
  split at hf <;> first | cases hf | skip
  rename_i ds en1 h1
  split at hf <;> first | cases hf | skip
  rename_i accF hF
  refine ⟨Bf, ow, en, k, ds, en1, h1, fun J ow1 H1 k1 r1 wk Dd hD => ?_⟩
  obtain ⟨oww, kw, rw⟩ := Ok.wipe k1 vs hvP
  let Pv : Nat → Hp → Prop := fun i H' => i ≤ ds.length ∧ ∃ ow' en2 acc ks, Ok P (insB Bf Dd) ow' en2 (L2.wipe σ vs) H' ∧ Rel P H1 ow1 H' ow' ∧ (∀ j, ow' j ≠ some Dd) ∧ H' Dd = some (.dT ks) ∧ PrT H' (blk (insB Bf Dd) ow') acc ks ∧
    (∀ i ∈ vs, ∀ s, en2[i]? = some s → s = .un) ∧ compT g tt tk te vs (ds.drop i) en2 acc = some (accF, en')
  have npD := kw.nb hD
  refine ⟨fun i m H' => m = ds.length - i ∧ Pv i H', ⟨_, rfl, Nat.zero_le _, oww, _, [], [], kw.avoid hD (fun _ z => nomatch z), rw.trans (Ext.upd hD).rel, fun j z => npD (.inr ⟨j, z⟩), upd_same, .nil, fun i hi s e => wipeE_un vs en1 i hi s e, by simpa using hF⟩, ?_⟩
  rintro i m H2 ⟨rfl, hle, ow2, en2, acc, xs, k2, r2, nD, eD, rs, un2, e2⟩
  have mv2 : ∀ b o, H1 b = some o → NT o → ¬ blk Bf ow1 b → H2 b = some o ∧ ¬ blk (insB Bf Dd) ow2 b := fun b o e t n => by
    obtain ⟨z1, z2⟩ := r2.mv (Bf := Bf) b o e t n
    refine ⟨z1, fun z => ?_⟩
    rcases insB_blk z with z | z
    · exact z2 z
    · subst z
      rw [hD] at e
      cases e
  have W := wk (blk (insB Bf Dd) ow2) H2 i mv2 (fun p hp => k2.nb hp) r2.hfrz (fun b xs e => k2.notup e)
  by_cases hlt : i < ds.length
  · have ed : ds[i]? = some ds[i] := List.getElem?_eq_getElem hlt
    obtain ⟨w1, w2⟩ := W.1 _ ed
    refine .inr ⟨w1, Pv (i + 1), fun H' p' => ⟨ds.length - (i + 1), by omega, rfl, p'⟩, fun x H3 y => ?_⟩
    obtain ⟨ex, p⟩ := w2 x H3 y
    rw [List.drop_eq_getElem_cons hlt] at e2
    unfold compT at e2
    cases eg : g ds[i] en2 with
    | none => rw [eg] at e2; cases e2
    | some en3 =>
      rw [eg] at e2
      simp only at e2
      refine ⟨insB Bf Dd, ow2, en2, ds[i], k2.ext ex, p, en3, eg, fun ow3 σ3 k3 r3 w3' => ?_⟩
      have w3 : L2.wipe σ3 vs = L2.wipe σ vs := (w3' vs hts).trans (wipe_idem σ vs)
      refine ⟨w3, ?_⟩
      have r13 : Rel P H1 ow1 H3 ow3 := r2.trans (ex.rel.trans r3)
      have nD3 : ∀ j, ow3 j ≠ some Dd := fun j z => nD j (r3.hsub j _ z)
      cases et : tt en3 with
      | none => rw [et] at e2; cases e2
      | some bt =>
        obtain ⟨b, en4⟩ := bt
        rw [et] at e2
        refine ⟨insB Bf Dd, ow3, en3, k3, b, en4, et, fun ow4 H4 k4 r4 => ?_⟩
        have eD4 : H4 Dd = some (.dT xs) := (r4.hkeep Dd _ (ex _ _ eD) (fun _ z => nomatch z) nD3).1
        have nD4 : ∀ j, ow4 j ≠ some Dd := fun j z => nD3 j (r4.hsub j _ z)
        have rs4 : PrT H4 (blk (insB Bf Dd) ow4) acc xs := rs.mv fun z => (ex.rel.trans (r3.trans r4)).rp z
        cases b with
        | false =>
          simp only at e2
          change Pv (i + 1) H4
          obtain ⟨ow5, k5, r5⟩ := Ok.wipe k4 vs hvP
          rw [w3] at k5
          exact ⟨hlt, ow5, _, acc, xs, k5, (r13.trans r4).trans r5, fun j z => nD4 j (r5.hsub j _ z), eD4, rs4.mv fun z => r5.rp z, fun i hi s e => wipeE_un vs _ i hi s e, e2⟩
        | true =>
          simp only at e2
          refine (show tv P tk σ3 H4 _ from ?_)
          cases ek : tk en4 with
          | none => rw [ek] at e2; cases e2
          | some kt =>
            obtain ⟨kd, en5⟩ := kt
            rw [ek] at e2
            simp only at e2
            refine ⟨insB Bf Dd, ow4, en4, k4, kd, en5, ek, fun vk ow5 H5 k5 r5 pk => ?_⟩
            refine (show tv P te σ3 H5 _ from ?_)
            cases ee : te en5 with
            | none => rw [ee] at e2; cases e2
            | some yt =>
              obtain ⟨yd, en6⟩ := yt
              rw [ee] at e2
              simp only at e2
              cases eK : keyD true kd with
              | none => rw [eK] at e2; cases e2
              | some kk =>
                rw [eK] at e2
                simp only at e2
                split at e2 <;> first | cases e2 | skip
                rename_i hz
                obtain ⟨kb, rfl, hkb⟩ := keyD_t pk eK
                refine ⟨insB Bf Dd, ow5, en5, k5, yd, en6, ee, fun v ow6 H6 k6 r6 p6 => ?_⟩
                have hkb6 : H6 kb = some (.tup (kk.map kV)) := by
                  cases pk with
                  | tup nb et _ => exact (r6.hkeep kb _ hkb (fun _ z => nomatch z) fun j z => nb (.inr ⟨j, z⟩)).1
                  | lst _ _ _ => cases eK
                have nD5 : ∀ j, ow5 j ≠ some Dd := fun j z => nD4 j (r5.hsub j _ z)
                have nD6 : ∀ j, ow6 j ≠ some Dd := fun j z => nD5 j (r6.hsub j _ z)
                have eD5 : H5 Dd = some (.dT xs) := (r5.hkeep Dd _ eD4 (fun _ z => nomatch z) nD4).1
                have eD6 : H6 Dd = some (.dT xs) := (r6.hkeep Dd _ eD5 (fun _ z => nomatch z) nD5).1
                have rs6 : PrT H6 (blk (insB Bf Dd) ow6) acc xs := rs4.mv fun z => r6.rp (r5.rp z)
                refine ⟨xs, kk, kb, rfl, hkb6, eD6, by rw [← VL.Paired.len rs6]; exact hz, ?_⟩
                have mvD : ∀ (B : Nat → Option Addr), (∀ j, B j ≠ some Dd) → ∀ b o, H6 b = some o → NT o → ¬ blk (insB Bf Dd) B b → upd H6 Dd (.dT (putK xs kk v)) b = some o ∧ ¬ blk (insB Bf Dd) B b := fun B _ b o e t n =>
                  ⟨by rw [upd_ne fun z => n (.inl (.inr z))]; exact e, n⟩
                have smD : ∀ b, H6 b ≠ none → upd H6 Dd (.dT (putK xs kk v)) b ≠ none := fun b hb => by
                  by_cases z : b = Dd
                  · rw [z, upd_same]
                    exact fun z => nomatch z
                  · rw [upd_ne z]
                    exact hb
                have ntD : ∀ b, nt H6 b → nt (upd H6 Dd (.dT (putK xs kk v))) b := fun b ⟨u, e, n⟩ => by
                  by_cases z : b = Dd
                  · rw [z]
                    exact ⟨_, upd_same, fun _ z => nomatch z⟩
                  · exact ⟨u, by rw [upd_ne z]; exact e, n⟩
                have k7 : Ok P (insB Bf Dd) ow6 en6 σ3 (upd H6 Dd (.dT (putK xs kk v))) :=
                  ⟨k6.hlen, fun i d e => let ⟨w, g1, g2⟩ := k6.hva i d e; ⟨w, g1, g2.move (mvD ow6 nD6)⟩, fun i d e => let ⟨w, g1, g2⟩ := k6.hvn i d e; ⟨w, g1, g2.move fun b o e t n => ⟨(mvD ow6 nD6 b o e t fun z => n (.inl z)).1, n⟩⟩, fun i s e f => let ⟨a, g1, g2, g3⟩ := k6.hob i s e f; ⟨a, g1, g2, g3.move (fun o e _ => by rw [upd_ne fun z => nD6 i (by rw [← z]; exact g1)]; exact e) (mvD ow6 nD6)⟩,
                    k6.hdom, k6.hinj, fun b z => ntD b (k6.hbf b z), fun b z => smD b (k6.hod b z), k6.hloc, tabs_upd k6.htab eD6 (fun _ z => nomatch z) fun _ z => nomatch z⟩
                have r7 : Rel P H1 ow1 (upd H6 Dd (.dT (putK xs kk v))) ow6 := by
                  have r16 := ((r13.trans r4).trans r5).trans r6
                  exact ⟨fun b o e t n => ⟨by
                    rw [upd_ne fun z => by rw [z, hD] at e; cases e]
                    exact (r16.hkeep b o e t n).1, (r16.hkeep b o e t n).2⟩, fun b hb => smD b (r16.hsome b hb), r16.hpin, r16.hsub, fun b o u e => by
                    rw [upd_ne fun z => by rw [z, hD] at e; cases e]
                    exact r16.hfrz b o u e, fun b e => ntD b (r16.hnt b e)⟩
                obtain ⟨ow8, k8, r8⟩ := Ok.wipe k7 vs hvP
                rw [w3] at k8
                have rput : PrT H6 (blk (insB Bf Dd) ow6) (putD acc kk yd) (putK xs kk v) := pr_put (f := fun k => k) (fun _ _ h => h) kk p6 rs6
                exact ⟨hlt, ow8, _, _, _, k8, r7.trans r8, fun j z => nD6 j (r8.hsub j _ z), upd_same, (rput.mv fun z => z.move (mvD ow6 nD6)).mv fun z => r8.rp z, fun i hi s e => wipeE_un vs _ i hi s e, e2⟩
  · have e : i = ds.length := by omega
    subst e
    rw [List.drop_length] at e2
    cases e2
    refine .inl ⟨W.2 rfl, ?_⟩
    have hD0 : H Dd = none := by
      cases z : H Dd with
      | none => rfl
      | some o => exact absurd hD (r1.hsome Dd (by rw [z]; exact fun z => nomatch z))
    have nb0 := k1.nb hD
    exact q Dd ow2 H2 (k2.unwipe un2) (r1.trans r2) (fun z => nb0 (.inl z)) (fun z => k1.hod Dd z hD) nD hD0 ⟨xs, eD, rs⟩
theorem vd_dcT (hu : X.A.units < cLine) {kx vx tg iter : Expr} {ifs : List Expr} {scope : Scope} {own : List (Str × Nat)} {pos : Pos} {fi : FL} {g : FG} {tt : FT} {tk te : FE} {ts vs : List Nat} (hc : X.calm = true) (hN : X.N.Nodup) (hi : VI X P tg iter fi) (ok : BlkOk X.N X.env.scope scope own)
    (hvs : own.map (·.2) = vs) (hvP : ∀ i ∈ vs, i ∉ P) (hts : ∀ i ∈ ts, i ∈ vs)
    (hg : ∀ (s : Shared) (H : Hp) (C : Addr) (cl : List (Str × Addr)) (fp : List Addr), VG (X.blk s H scope (compEnvC scope cl C X.env) fp) P tg ts g) (ht : ∀ (s : Shared) (H : Hp) (C : Addr) (cl : List (Str × Addr)) (fp : List Addr), VTs (X.blk s H scope (compEnvC scope cl C X.env) fp) P ifs tt)
    (hk : ∀ (s : Shared) (H : Hp) (C : Addr) (cl : List (Str × Addr)) (fp : List Addr), VE (X.blk s H scope (compEnvC scope cl C X.env) fp) P kx tk)
    (he : ∀ (s : Shared) (H : Hp) (C : Addr) (cl : List (Str × Addr)) (fp : List Addr), VE (X.blk s H scope (compEnvC scope cl C X.env) fp) P vx te) (hs : ∀ x, foldedSetIterable iter X.env x = pure x := by intro _; rfl) :
    VD X P (.DictComp kx vx [⟨tg, iter, ifs, 0⟩] scope pos) (dCompT fi g tt tk te vs) :=
  PE.weak (pe_dcT hu hc hN hi ok hg ht hk he hs) (by rw [hvs]; exact tvD_dcT hvP hts)
/-! ### list(d), the keys of a dict with tuples as keys -/
variable {a b e : Expr} {pos : Pos}
def lKeysT (i : Nat) : FL := fun en => match en[i]? with
  | some (.dc ⟨true, _⟩ kvs) => some (kvs.map fun p => kToD true p.1, en)
  | _ => none
theorem rpl_kDs {H : Hp} {B : Addr → Prop} : ∀ k : List Key, RpL H B (k.map kD) (k.map kV)
  | [] => .nil
  | x :: k => .cons (rp_kD x) (rpl_kDs k)
theorem rpl_keysT {H : Hp} {B : Addr → Prop} (nt : ∀ b xs, H b = some (.tup xs) → ¬ B b) : ∀ {kvs : DKV} {ks : List (List Key × V)} {bs : List Addr}, Paired (fun (p : List Key × D) (q : List Key × V) => p.1 = q.1 ∧ Rp H B p.2 q.2) kvs ks → IsKeys H ks bs → RpL H B (kvs.map fun p => kToD true p.1) (bs.map V.ref)
  | _, _, _, .nil, .nil => .nil
  | _, _, _, .cons (a := p) (b := q) r rs, .cons t ts => by
    rw [List.map_cons, List.map_cons, r.1]
    exact .cons (.tup (nt _ _ t) t (rpl_kDs q.1)) (rpl_keysT nt rs ts)
theorem vf_listDT {i : Nat} {x : Str} {p p' pos : Pos} (hc : X.calm = true) (hN : X.N[i]? = some x) (hv : Vis X.env.scope x := by first | exact .inl rfl | exact .inr (.inl rfl) | exact .inr (.inr rfl)) (hg : Gl X "list") (hm : X.mg "list" = none)
    (hd : (x == ("__debug__" : Str)) = false := by decide) (hcd : (x == ("__classdict__" : Str)) = false := by decide)
    (hst : starEach [.Name x p'] X.env = (false, eval (.Name x p') X.env) :: starEach [] X.env := by rfl) (hpl : (backTo pos (starEach [] X.env)).any (·.1) = false := by rfl) : VF X P (.Call (.Name "list" p) [.Name x p'] [] pos) (lKeysT i) :=
  PE.weak (pe_callTy (call_list_dT hc) hg hm (by decide +kernel) (pa_cons (pe_var hN hv hd hcd) pa_nil hst) (by decide) (by decide) hst hpl) fun σ H Q h => by
    obtain ⟨Bf, ow, en, k, d, en', hf, q⟩ := h
    unfold lKeysT at hf
    split at hf <;> first | cases hf | skip
    rename_i l kvs e0
    obtain ⟨a, g1, g2, g3⟩ := k.hdc i _ kvs e0
    obtain ⟨ks, g4, g5⟩ := g3
    exact ⟨_, g2, a, ks, rfl, g4.rd, fun p bs hp hk => fresh_of (f := Q) k .refl hp (rpl_keysT (fun b xs e => k.notup e) g5 hk) q⟩
/-! ### sorted(set(xs)), pairs of ints -/
def ltQ (a b : Int × Int) : Prop := a.1 < b.1 ∨ (a.1 = b.1 ∧ a.2 < b.2)
theorem ltQ_uniq : ∀ {xs ys : List (Int × Int)}, xs.Pairwise ltQ → ys.Pairwise ltQ → (∀ p, p ∈ xs ↔ p ∈ ys) → xs = ys
  | [], [], _, _, _ => rfl
  | [], y :: ys, _, _, h => absurd ((h y).mpr (by simp)) (by simp)
  | x :: xs, [], _, _, h => absurd ((h x).mp (by simp)) (by simp)
  | x :: xs, y :: ys, h1, h2, h => by
    have n1 := List.pairwise_cons.mp h1
    have n2 := List.pairwise_cons.mp h2
    have exy : x = y := by
      rcases List.mem_cons.mp ((h x).mp (by simp)) with e | e
      · exact e
      · rcases List.mem_cons.mp ((h y).mpr (by simp)) with e' | e'
        · exact e'.symm
        · have a1 := n2.1 x e
          have a2 := n1.1 y e'
          unfold ltQ at a1 a2
          omega
    subst exy
    congr 1
    refine ltQ_uniq n1.2 n2.2 fun p => ?_
    constructor
    · intro hp
      rcases List.mem_cons.mp ((h p).mp (List.mem_cons_of_mem _ hp)) with e | e
      · subst e
        have := n1.1 p hp
        unfold ltQ at this
        omega
      · exact e
    · intro hp
      rcases List.mem_cons.mp ((h p).mpr (List.mem_cons_of_mem _ hp)) with e | e
      · subst e
        have := n2.1 p hp
        unfold ltQ at this
        omega
      · exact e
def uniqP : List (Int × Int) → List (Int × Int)
  | [] => []
  | n :: ns => if n ∈ ns then uniqP ns else n :: uniqP ns
theorem mem_uniqP : ∀ {ns : List (Int × Int)} {k : Int × Int}, k ∈ uniqP ns ↔ k ∈ ns
  | [], k => by simp [uniqP]
  | n :: ns, k => by
    unfold uniqP
    split
    · rename_i h
      rw [mem_uniqP, List.mem_cons]
      exact ⟨.inr, fun z => z.elim (fun z => by rw [z]; exact h) id⟩
    · rw [List.mem_cons, List.mem_cons, mem_uniqP]
theorem nodup_uniqP : ∀ ns : List (Int × Int), (uniqP ns).Nodup
  | [] => List.nodup_nil
  | n :: ns => by
    unfold uniqP
    split
    · exact nodup_uniqP ns
    · rename_i h
      exact List.nodup_cons.mpr ⟨fun z => h (mem_uniqP.mp z), nodup_uniqP ns⟩
def setP (ns : List (Int × Int)) : List (Int × Int) := sortP (uniqP ns)
theorem mem_setP {ns : List (Int × Int)} {k : Int × Int} : k ∈ setP ns ↔ k ∈ ns := by
  unfold setP
  rw [(sortP_perm _).mem_iff, mem_uniqP]
theorem nodup_setP (ns : List (Int × Int)) : (setP ns).Nodup := (sortP_perm _).nodup_iff.mpr (nodup_uniqP ns)
theorem setP_pw (ns : List (Int × Int)) : (setP ns).Pairwise ltQ := by
  refine List.Pairwise.imp (fun {a b} h => ?_) ((List.pairwise_and_iff.mpr ⟨sortP_pw (uniqP ns), nodup_setP ns⟩ : List.Pairwise _ (setP ns)))
  obtain ⟨h1, h2⟩ := h
  have h3 : ¬ (a.1 = b.1 ∧ a.2 = b.2) := fun z => h2 (Prod.ext z.1 z.2)
  unfold leP at h1
  unfold ltQ
  simp at h1
  omega
/-- the addresses of pairs, with what stands there -/
theorem pairs_at {H : Hp} {B : Addr → Prop} : ∀ {ps : List (Int × Int)} {xs : List V}, RpL H B (ps.map pairD) xs → ∃ ks : List (Addr × List Int), xs = ks.map (fun p => V.ref p.1) ∧ (∀ p ∈ ks, ¬ B p.1 ∧ H p.1 = some (.tup (p.2.map V.int)) ∧ ∃ q ∈ ps, p.2 = [q.1, q.2]) ∧ ∀ q ∈ ps, ∃ p ∈ ks, p.2 = [q.1, q.2]
  | [], _, .nil => ⟨[], rfl, (fun _ z => nomatch z), fun _ z => nomatch z⟩
  | q :: ps, _, .cons r rs => by
    obtain ⟨ks, h1, h2, h3⟩ := pairs_at rs
    unfold pairD at r
    cases r with
    | tup nb e s =>
      rename_i a xs
      have := RpL.ints (ns := [q.1, q.2]) s
      subst this
      refine ⟨(a, [q.1, q.2]) :: ks, by rw [h1]; rfl, fun p hp => ?_, fun p hp => ?_⟩
      · rcases List.mem_cons.mp hp with z | z
        · rw [z]
          exact ⟨nb, e, q, by simp, rfl⟩
        · obtain ⟨a1, a2, q', a3, a4⟩ := h2 p z
          exact ⟨a1, a2, q', List.mem_cons_of_mem _ a3, a4⟩
      · rcases List.mem_cons.mp hp with z | z
        · rw [z]
          exact ⟨(a, [q.1, q.2]), List.mem_cons_self .., rfl⟩
        · obtain ⟨p', a1, a2⟩ := h3 p z
          exact ⟨p', List.mem_cons_of_mem _ a1, a2⟩
def topP : List (Int × Int) → Int
  | [] => 1
  | q :: ps => 1 + max (max q.1 q.2) (topP ps)
theorem topP_gt : ∀ {ps : List (Int × Int)} {q : Int × Int}, q ∈ ps → q.1 < topP ps ∧ q.2 < topP ps
  | [], _, h => nomatch h
  | x :: ps, q, h => by
    unfold topP
    rcases List.mem_cons.mp h with z | z
    · subst z
      omega
    · have := topP_gt z
      omega
def lSortSetT (f : FE) : FL := fun en => match f en with
  | some (.list ds, en1) => match pairsOf ds with
    | some ps => if ps.length < 64 ∧ (ps.all fun q => decide (0 ≤ q.1) && decide (0 ≤ q.2)) = true then some ((setP ps).map pairD, en1) else none
    | none => none
  | _ => none
theorem rpl_set {H : Hp} {B : Addr → Prop} : ∀ {qs : List (Int × Int)} {L : List (Addr × List Int)}, L.map (·.2) = qs.map (fun q => [q.1, q.2]) → (∀ p ∈ L, ¬ B p.1 ∧ H p.1 = some (.tup (p.2.map V.int))) → RpL H B (qs.map pairD) (L.map fun p => V.ref p.1)
  | [], [], _, _ => .nil
  | [], _ :: _, e, _ => by cases e
  | _ :: _, [], e, _ => by cases e
  | q :: qs, p :: L, e, h => by
    rw [List.map_cons, List.map_cons] at e
    injection e with e1 e2
    obtain ⟨a1, a2⟩ := h p (by simp)
    rw [e1] at a2
    exact .cons (.tup a1 a2 (RpL.ofInts [q.1, q.2])) (rpl_set e2 fun p hp => h p (List.mem_cons_of_mem _ hp))
theorem vf_sortSetT {f : FE} {p p2 q pos : Pos} (hc : X.calm = true) (hu : X.A.units + 64 < cLine) (hg : Gl X "sorted") (hm : X.mg "sorted" = none) (hg2 : Gl X "set") (hm2 : X.mg "set" = none) (ha : VE X P a f)
    (na : starEach [a] X.env = (false, eval a X.env) :: starEach [] X.env := by rfl) (nb : starEach [.Call (.Name "set" p2) [a] [] q] X.env = (false, eval (.Call (.Name "set" p2) [a] [] q) X.env) :: starEach [] X.env := by rfl)
    (hp1 : (backTo q (starEach [] X.env)).any (·.1) = false := by rfl) (hp2 : (backTo pos (starEach [] X.env)).any (·.1) = false := by rfl) : VF X P (.Call (.Name "sorted" p) [.Call (.Name "set" p2) [a] [] q] [] pos) (lSortSetT f) :=
  PE.weak (pe_callB (cr_sortedT hc) hg hm (show bootBuiltins "sorted" = some (.builtin "sorted") by decide +kernel) (pa_cons (pe_callTy (cr_setOfT hc hu) hg2 hm2 PyProof.Rows.boot_set (pa_cons ha pa_nil na) (by decide) (by decide) na hp1) pa_nil nb) (by decide) (by decide) nb hp2) fun σ H Q h => by
    obtain ⟨Bf, ow, en, k, d, en', hf, q⟩ := h
    unfold lSortSetT at hf
    split at hf <;> first | cases hf | skip
    rename_i ds en1 h1
    split at hf <;> first | cases hf | skip
    rename_i ps h2
    split at hf <;> first | cases hf | skip
    rename_i hcnd
    have := pairsOf_eq h2
    subst this
    refine ⟨Bf, ow, en, k, _, _, h1, fun v ow1 H1 k1 r1 p1 => ?_⟩
    cases p1 with
    | lst n1 d1 s1 =>
      rename_i l xs
      obtain ⟨ks, e1, e2, e3⟩ := pairs_at s1
      subst e1
      have hlen : ks.length < 64 := by
        have := s1.length
        rw [List.length_map, List.length_map] at this
        rw [← this]
        exact hcnd.1
      have hnn := List.all_eq_true.mp hcnd.2
      refine ⟨l, ks, rfl, .inl d1, fun p hp => SqT.of (e2 p hp).2.1, hlen, fun sa L hsa hL1 hL2 => ?_⟩
      have bd : ∀ p ∈ L, TS.Bd (topP ps) p.2 := fun p hp m hm => by
        obtain ⟨_, _, q, hq, eq⟩ := e2 p (hL1 p hp)
        rw [eq] at hm
        have a1 := hnn q hq
        rw [Bool.and_eq_true, decide_eq_true_eq, decide_eq_true_eq] at a1
        have a2 := topP_gt hq
        rcases List.mem_cons.mp hm with z | z
        · omega
        · rcases List.mem_cons.mp z with z | z
          · omega
          · cases z
      have k2 := k1.ext (.upd hsa (o := SetTO X.prog X.w sa L))
      refine ⟨sa, L, 2, topP ps, rfl, upd_same, fun p hp => SqT.of ?_, by decide, fun p hp => ⟨?_, bd p hp⟩, fun L' pn pm nd _ pw hpn => ?_⟩
      · exact Ext.upd hsa _ _ (e2 p (hL1 p hp)).2.1
      · obtain ⟨_, _, q, hq, eq⟩ := e2 p (hL1 p hp)
        rw [eq]
        rfl
      · have mem' : ∀ p ∈ L', p ∈ ks := fun p hp => hL1 p (pm.mem_iff.mp hp)
        have hz : L'.map (·.2) = (setP ps).map fun q => [q.1, q.2] := by
          have two : ∀ p ∈ L', p.2 = [(p.2.headD 0), (p.2.getD 1 0)] := fun p hp => by
            obtain ⟨_, _, q, _, eq⟩ := e2 p (mem' p hp)
            rw [eq]
            rfl
          have key : L'.map (fun p => ((p.2.headD 0, p.2.getD 1 0) : Int × Int)) = setP ps := by
            refine ltQ_uniq ?_ (setP_pw ps) fun z => ?_
            · refine List.pairwise_map.mpr ?_
              have nd' := List.pairwise_map.mp nd
              refine (List.pairwise_and_iff.mpr ⟨pw, nd'⟩).imp_of_mem fun {x y} hx hy h => ?_
              obtain ⟨h1, h2⟩ := h
              have ex := two x hx
              have ey := two y hy
              have bx := bd x (pm.mem_iff.mp hx)
              have bY := bd y (pm.mem_iff.mp hy)
              rw [ex] at bx h1
              rw [ey] at bY h1
              have h3 := code_lex bx bY h1
              have h4 : ¬ (x.2.headD 0 = y.2.headD 0 ∧ x.2.getD 1 0 = y.2.getD 1 0) := fun z => h2 (by rw [ex, ey, z.1, z.2])
              show _ < _ ∨ (_ = _ ∧ _ < _)
              dsimp only
              omega
            · rw [mem_setP, List.mem_map]
              constructor
              · rintro ⟨p, hp, rfl⟩
                obtain ⟨_, _, q, hq, eq⟩ := e2 p (mem' p hp)
                rw [eq]
                exact hq
              · intro hz
                obtain ⟨p, hp, eq⟩ := e3 z hz
                obtain ⟨p', hp', e'⟩ := List.mem_map.mp (hL2 p hp)
                refine ⟨p', pm.mem_iff.mpr hp', ?_⟩
                rw [e', eq]
                rfl
          rw [← key, List.map_map]
          exact List.map_congr_left two
        have r2 : Rel P H ow (upd H1 sa (SetTO X.prog X.w sa L)) ow1 := r1.trans (Ext.upd hsa).rel
        refine fresh_of (f := Q) k2 r2 hpn (rpl_set hz fun p hp => ?_) q
        obtain ⟨a1, a2, _⟩ := e2 p (mem' p hp)
        exact ⟨a1, Ext.upd hsa _ _ a2⟩
end
end VL

namespace VL
open PySem PySem.Spec
open PyProof.Rows L2
/-! ### the data functions, gone through from the front: what holds behind each -/
def O1 {α : Type} (x : Option α) (Q : α → Prop) : Prop := ∃ a, x = some a ∧ Q a
def O2 {α β : Type} (x : Option (α × β)) (Q : α → β → Prop) : Prop := ∃ a b, x = some (a, b) ∧ Q a b
theorem O1.mono {α : Type} {x : Option α} {Q Q' : α → Prop} (h : O1 x Q) (w : ∀ a, Q a → Q' a) : O1 x Q' := let ⟨a, e, q⟩ := h; ⟨a, e, w a q⟩
theorem O2.mono {α β : Type} {x : Option (α × β)} {Q Q' : α → β → Prop} (h : O2 x Q) (w : ∀ a b, Q a b → Q' a b) : O2 x Q' := let ⟨a, b, e, q⟩ := h; ⟨a, b, e, w a b q⟩
theorem O1.of {α : Type} {x : Option α} {a : α} {Q : α → Prop} (e : x = some a) (q : Q a) : O1 x Q := ⟨a, e, q⟩
theorem O2.of {α β : Type} {x : Option (α × β)} {a : α} {b : β} {Q : α → β → Prop} (e : x = some (a, b)) (q : Q a b) : O2 x Q := ⟨a, b, e, q⟩
section
variable {P P' : List Nat} {i n m : Nat} {en : En} {f fa fb fc : FE} {g ga : FA} {t u : FT} {s s' : FS} {l : FL} {gm : FM} {Q : D → En → Prop} {QB : Bool → En → Prop} {QL : List D → En → Prop} {QM : List Md → En → Prop} {QO : Out → Prop} {QE : En → Prop}
theorem w_var {d : D} (e : en[i]? = some (.va d)) (q : Q d en) : O2 (eVar P i en) Q := ⟨_, _, by unfold eVar; rw [e], q⟩
theorem w_varN {d : D} (e : en[i]? = some (.vn d)) (q : Q d en) : O2 (eVar P i en) Q := ⟨_, _, by unfold eVar; rw [e], q⟩
theorem w_varO {ds : List D} (e : en[i]? = some (.ow ds)) (hi : i ∉ P) (q : Q (.list ds) (en.set i (.va (.list ds)))) : O2 (eVar P i en) Q := ⟨_, _, by unfold eVar; rw [e]; exact if_neg hi, q⟩
theorem w_c {d : D} (q : Q d en) : O2 (eC d en) Q := ⟨_, _, rfl, q⟩
theorem w_op {g : D → D → Option D} (h : O2 (fa en) fun x en1 => O2 (fb en1) fun y en2 => O1 (g x y) fun z => Q z en2) : O2 (eOp g fa fb en) Q := by
  obtain ⟨x, en1, h1, y, en2, h2, z, h3, q⟩ := h
  exact ⟨z, en2, by simp only [eOp, h1, h2, h3], q⟩
theorem w_tru (h : O2 (f en) fun d en1 => O1 (truD d) fun b => QB b en1) : O2 (fTru f en) QB := by
  obtain ⟨x, en1, h1, z, h3, q⟩ := h
  exact ⟨z, en1, by simp only [fTru, h1, h3], q⟩
theorem w_bool (h : O2 (f en) fun d en1 => ∃ b, d = .bool b ∧ QB b en1) : O2 (fBool f en) QB := by
  obtain ⟨x, en1, h1, z, rfl, q⟩ := h
  exact ⟨z, en1, by simp only [fBool, h1], q⟩
theorem w_not (h : O2 (t en) fun b en1 => QB (!b) en1) : O2 (fNot t en) QB := by
  obtain ⟨x, en1, h1, q⟩ := h
  exact ⟨_, en1, by simp only [fNot, h1], q⟩
theorem w_and (h : O2 (t en) fun b en1 => (b = true → O2 (u en1) QB) ∧ (b = false → QB false en1)) : O2 (fAnd t u en) QB := by
  obtain ⟨b, en1, h1, q1, q2⟩ := h
  cases b with
  | true =>
    obtain ⟨c, en2, h2, q⟩ := q1 rfl
    exact ⟨c, en2, by simp only [fAnd, h1, h2], q⟩
  | false => exact ⟨_, en1, by simp only [fAnd, h1], q2 rfl⟩
theorem w_or (h : O2 (t en) fun b en1 => (b = true → QB true en1) ∧ (b = false → O2 (u en1) QB)) : O2 (fOr t u en) QB := by
  obtain ⟨b, en1, h1, q1, q2⟩ := h
  cases b with
  | false =>
    obtain ⟨c, en2, h2, q⟩ := q2 rfl
    exact ⟨c, en2, by simp only [fOr, h1, h2], q⟩
  | true => exact ⟨_, en1, by simp only [fOr, h1], q1 rfl⟩
theorem w_yes (q : QB true en) : O2 (tYesV en) QB := ⟨_, _, rfl, q⟩
theorem w_eand (h : O2 (fa en) fun d en1 => ∃ b, d = .bool b ∧ (b = true → O2 (fb en1) Q) ∧ (b = false → Q (.bool false) en1)) : O2 (eAnd fa fb en) Q := by
  obtain ⟨d, en1, h1, b, rfl, q1, q2⟩ := h
  cases b with
  | true =>
    obtain ⟨c, en2, h2, q⟩ := q1 rfl
    exact ⟨c, en2, by simp only [eAnd, h1, h2], q⟩
  | false => exact ⟨_, en1, by simp only [eAnd, h1], q2 rfl⟩
theorem w_eor (h : O2 (fa en) fun d en1 => ∃ b, d = .bool b ∧ (b = true → Q (.bool true) en1) ∧ (b = false → O2 (fb en1) Q)) : O2 (eOr fa fb en) Q := by
  obtain ⟨d, en1, h1, b, rfl, q1, q2⟩ := h
  cases b with
  | false =>
    obtain ⟨c, en2, h2, q⟩ := q2 rfl
    exact ⟨c, en2, by simp only [eOr, h1, h2], q⟩
  | true => exact ⟨_, en1, by simp only [eOr, h1], q1 rfl⟩
theorem w_enot (h : O2 (f en) fun d en1 => ∃ b, d = .bool b ∧ Q (.bool (!b)) en1) : O2 (eNot f en) Q := by
  obtain ⟨d, en1, h1, b, rfl, q⟩ := h
  exact ⟨_, en1, by simp only [eNot, h1], q⟩
theorem w_eneg (h : O2 (f en) fun d en1 => ∃ b, d = .int b ∧ Q (.int (-b)) en1) : O2 (eNeg f en) Q := by
  obtain ⟨d, en1, h1, b, rfl, q⟩ := h
  exact ⟨_, en1, by simp only [eNeg, h1], q⟩
theorem w_eif (h : O2 (t en) fun b en1 => (b = true → O2 (fa en1) Q) ∧ (b = false → O2 (fb en1) Q)) : O2 (eIf t fa fb en) Q := by
  obtain ⟨b, en1, h1, q1, q2⟩ := h
  cases b with
  | true =>
    obtain ⟨c, en2, h2, q⟩ := q1 rfl
    exact ⟨c, en2, by simp only [eIf, h1, h2], q⟩
  | false =>
    obtain ⟨c, en2, h2, q⟩ := q2 rfl
    exact ⟨c, en2, by simp only [eIf, h1, h2], q⟩
theorem w_chain {g g' : D → D → Option D} (h : O2 (fa en) fun x en1 => O2 (fb en1) fun y en2 => O1 (g x y) fun z => ∃ b, z = .bool b ∧ (b = true → O2 (fc en2) fun w en3 => O1 (g' y w) fun u => Q u en3) ∧ (b = false → Q (.bool false) en2)) : O2 (eChain g g' fa fb fc en) Q := by
  obtain ⟨x, en1, h1, y, en2, h2, z, h3, b, rfl, q1, q2⟩ := h
  cases b with
  | true =>
    obtain ⟨w, en3, h4, u, h5, q⟩ := q1 rfl
    exact ⟨u, en3, by simp only [eChain, h1, h2, h3, h4, h5], q⟩
  | false => exact ⟨_, _, by simp only [eChain, h1, h2, h3], q2 rfl⟩
theorem w_anil (q : QL [] en) : O2 (aNil en) QL := ⟨_, _, rfl, q⟩
theorem w_acons (h : O2 (f en) fun d en1 => O2 (g en1) fun ds en2 => QL (d :: ds) en2) : O2 (aCons f g en) QL := by
  obtain ⟨d, en1, h1, ds, en2, h2, q⟩ := h
  exact ⟨_, en2, by simp only [aCons, h1, h2], q⟩
theorem w_tup (h : O2 (g en) fun ds en1 => ds.length ≤ sizeLine ∧ Q (.tuple ds) en1) : O2 (eTup g en) Q := by
  obtain ⟨ds, en1, h1, h2, q⟩ := h
  exact ⟨_, en1, by simp only [eTup, h1, h2, if_true], q⟩
theorem w_elst (h : O2 (g en) fun ds en1 => ds.length ≤ sizeLine ∧ Q (.list ds) en1) : O2 (eLst g en) Q := by
  obtain ⟨ds, en1, h1, h2, q⟩ := h
  exact ⟨_, en1, by simp only [eLst, h1, h2, if_true], q⟩
theorem w_llst (h : O2 (g en) fun ds en1 => ds.length ≤ sizeLine ∧ QL ds en1) : O2 (lLst g en) QL := by
  obtain ⟨ds, en1, h1, h2, q⟩ := h
  exact ⟨_, en1, by simp only [lLst, h1, h2, if_true], q⟩
theorem w_call {k : List D → Option D} (h : O2 (g en) fun ds en1 => O1 (k ds) fun d => Q d en1) : O2 (eCall k g en) Q := by
  obtain ⟨ds, en1, h1, d, h2, q⟩ := h
  exact ⟨_, en1, by simp only [eCall, h1, h2], q⟩
theorem w_lcall {k : List D → Option (List D)} (h : O2 (g en) fun ds en1 => O1 (k ds) fun d => QL d en1) : O2 (lCall k g en) QL := by
  obtain ⟨ds, en1, h1, d, h2, q⟩ := h
  exact ⟨_, en1, by simp only [lCall, h1, h2], q⟩
theorem w_new (h : O2 (l en) fun ds en1 => Q (.list ds) en1) : O2 (eNew l en) Q := by
  obtain ⟨ds, en1, h1, q⟩ := h
  exact ⟨_, en1, by simp only [eNew, h1], q⟩
theorem w_nil (q : QO (.nx en)) : O1 (sNil en) QO := ⟨_, rfl, q⟩
def thenQ (s : FS) (QO : Out → Prop) : Out → Prop
  | .nx en => O1 (s en) QO
  | o => QO o
theorem thenQ_nx (h : O1 (s en) QO) : thenQ s QO (.nx en) := h
theorem thenQ_rt {d : D} (h : QO (.rt d en)) : thenQ s QO (.rt d en) := h
theorem thenQ_rf {d : List D} (h : QO (.rf d en)) : thenQ s QO (.rf d en) := h
theorem thenQ_rd {t : Bool} {d : DKV} (h : QO (.rd t d en)) : thenQ s QO (.rd t d en) := h
theorem w_seq (h : O1 (s en) (thenQ s' QO)) : O1 (sSeq s s' en) QO := by
  obtain ⟨o, h1, q⟩ := h
  cases o with
  | nx en1 =>
    obtain ⟨o, h2, q⟩ := q
    exact ⟨o, by simp only [sSeq, h1, h2], q⟩
  | _ => exact ⟨_, by simp only [sSeq, h1], q⟩
theorem w_drop (h : O2 (f en) fun _ en1 => QO (.nx en1)) : O1 (sDrop f en) QO := by
  obtain ⟨d, en1, h1, q⟩ := h
  exact ⟨_, by simp only [sDrop, h1], q⟩
theorem w_ret (h : O2 (f en) fun d en1 => QO (.rt d en1)) : O1 (sRet f en) QO := by
  obtain ⟨d, en1, h1, q⟩ := h
  exact ⟨_, by simp only [sRet, h1], q⟩
theorem w_retN (q : QO (.rt .none en)) : O1 (sRetN en) QO := ⟨_, rfl, q⟩
theorem w_retF (h : O2 (l en) fun ds en1 => QO (.rf ds en1)) : O1 (sRetF l en) QO := by
  obtain ⟨d, en1, h1, q⟩ := h
  exact ⟨_, by simp only [sRetF, h1], q⟩
theorem w_retO {ds : List D} (e : en[i]? = some (.ow ds)) (hi : i ∉ P) (q : QO (.rf ds (en.set i .un))) : O1 (sRetO P i en) QO := ⟨_, by unfold sRetO; rw [e]; exact if_neg hi, q⟩
theorem w_retD {t : Bool} {kvs : DKV} (e : en[i]? = some (.dc ⟨t, false⟩ kvs)) (hi : i ∉ P) (q : QO (.rd t kvs (en.set i .un))) : O1 (sRetD P i en) QO := ⟨_, by unfold sRetD; rw [e]; exact if_neg hi, q⟩
theorem w_retDF {f : FDc} (h : O2 (f en) fun r en1 => QO (.rd r.1 r.2 en1)) : O1 (sRetDF f en) QO := by
  obtain ⟨d, en1, h1, q⟩ := h
  exact ⟨_, by simp only [sRetDF, h1], q⟩
theorem w_ownD {f : FDc} (h : O2 (f en) fun r en1 => i < en1.length ∧ QO (.nx (en1.set i (.dc ⟨r.1, false⟩ r.2)))) : O1 (sOwnD i f en) QO := by
  obtain ⟨d, en1, h1, h2, q⟩ := h
  exact ⟨_, by simp only [sOwnD, h1, h2, if_true], q⟩
theorem w_if (h : O2 (t en) fun b en1 => (b = true → O1 (s en1) QO) ∧ (b = false → O1 (s' en1) QO)) : O1 (sIf t s s' en) QO := by
  obtain ⟨b, en1, h1, q1, q2⟩ := h
  cases b with
  | true =>
    obtain ⟨o, h2, q⟩ := q1 rfl
    exact ⟨o, by simp only [sIf, h1, h2], q⟩
  | false =>
    obtain ⟨o, h2, q⟩ := q2 rfl
    exact ⟨o, by simp only [sIf, h1, h2], q⟩
theorem w_set (h : O2 (f en) fun d en1 => QO (.nx (en1.set i (.va d)))) : O1 (sSet i f en) QO := by
  obtain ⟨d, en1, h1, q⟩ := h
  exact ⟨_, by simp only [sSet, h1], q⟩
theorem w_setN (h : O2 (f en) fun d en1 => QO (.nx (en1.set i (.vn d)))) : O1 (sSetN i f en) QO := by
  obtain ⟨d, en1, h1, q⟩ := h
  exact ⟨_, by simp only [sSetN, h1], q⟩
theorem w_own (h : O2 (l en) fun ds en1 => i < en1.length ∧ QO (.nx (en1.set i (.ow ds)))) : O1 (sOwn i l en) QO := by
  obtain ⟨d, en1, h1, h2, q⟩ := h
  exact ⟨_, by simp only [sOwn, h1, h2, if_true], q⟩
theorem w_asg {k : FG} (h : O2 (f en) fun d en1 => O1 (k d en1) fun en2 => QO (.nx en2)) : O1 (sAsg f k en) QO := by
  obtain ⟨d, en1, h1, en2, h2, q⟩ := h
  exact ⟨_, by simp only [sAsg, h1, h2], q⟩
theorem w_gnm {d : D} (q : QE (en.set i (.va d))) : O1 (gNm i d en) QE := ⟨_, rfl, q⟩
theorem w_gtp {k : FGs} {ds : List D} (hl : ds.length = n) (h : O1 (k ds en) QE) : O1 (gTp n k (.tuple ds) en) QE := by
  obtain ⟨en1, h1, q⟩ := h
  exact ⟨_, by simp only [gTp, hl, if_true, h1], q⟩
theorem w_gsnil (q : QE en) : O1 (gsNil [] en) QE := ⟨_, rfl, q⟩
theorem w_gscons {k : FG} {r : FGs} {d : D} {ds : List D} (h : O1 (k d en) fun en1 => O1 (r ds en1) QE) : O1 (gsCons k r (d :: ds) en) QE := by
  obtain ⟨en1, h1, en2, h2, q⟩ := h
  exact ⟨_, by simp only [gsCons, h1, h2], q⟩
theorem w_app (e : isOw en[i]? = true) (h : O2 (f en) fun d en1 => ∃ ds, en1[i]? = some (.ow ds) ∧ ds.length < sizeLine ∧ QO (.nx (en1.set i (.ow (ds ++ [d]))))) : O1 (sApp i f en) QO := by
  obtain ⟨d, en1, h1, ds, h2, h3, q⟩ := h
  exact ⟨_, by simp only [sApp, e, h1, h2, h3, if_true], q⟩
theorem w_put (h : O2 (fa en) fun d en1 => isOw en1[i]? = true ∧ O2 (fb en1) fun x en2 => ∃ z ds j, x = .int z ∧ en2[i]? = some (.ow ds) ∧ ixN ds.length z = some j ∧ QO (.nx (en2.set i (.ow (ds.set j d))))) : O1 (sPut i fa fb en) QO := by
  obtain ⟨d, en1, h1, h2, x, en2, h3, z, ds, j, rfl, h4, h5, q⟩ := h
  exact ⟨_, by simp only [sPut, h1, h2, h3, h4, h5, if_true], q⟩
theorem w_get (e : isOw en[i]? = true) (h : O2 (f en) fun x en1 => ∃ z ds d, x = .int z ∧ en1[i]? = some (.ow ds) ∧ atI ds z = some d ∧ Q d en1) : O2 (eGet i f en) Q := by
  obtain ⟨x, en1, h1, z, ds, d, rfl, h2, h3, q⟩ := h
  exact ⟨_, _, by simp only [eGet, e, h1, h2, h3, if_true], q⟩
theorem w_getV {d : D} (e : en[i]? = some (.va d)) (h : O2 (f en) fun z en1 => O1 (gIx d z) fun r => Q r en1) : O2 (eGet i f en) Q := by
  obtain ⟨z, en1, h1, r, h2, q⟩ := h
  exact ⟨_, _, by simp only [eGet, isOw, e, eOp, eVarV, h1, h2]; rfl, q⟩
theorem w_lenO {ds : List D} (e : en[i]? = some (.ow ds)) (q : Q (.int ds.length) en) : O2 (eLenO i en) Q := ⟨_, _, by simp only [eLenO, e], q⟩
theorem w_mnil (q : QM [] en) : O2 (mNil en) QM := ⟨_, _, rfl, q⟩
theorem w_mcons (h : O2 (f en) fun d en1 => O2 (gm en1) fun ms en2 => QM (.v d :: ms) en2) : O2 (mCons f gm en) QM := by
  obtain ⟨d, en1, h1, ds, en2, h2, q⟩ := h
  exact ⟨_, en2, by simp only [mCons, h1, h2], q⟩
theorem w_mown (e : isOwnO en[i]? = true) (h : O2 (gm en) fun ms en1 => isOwnO en1[i]? = true ∧ QM (.o i :: ms) en1) : O2 (mOwn i gm en) QM := by
  obtain ⟨ds, en2, h2, h3, q⟩ := h
  exact ⟨_, en2, by simp only [mOwn, e, h2, h3, if_true], q⟩
theorem w_mlend (e : isOw en[i]? = true) (h : O2 (gm en) fun ms en1 => isOw en1[i]? = true ∧ QM (.b i :: ms) en1) : O2 (mLend i gm en) QM := by
  obtain ⟨ds, en2, h2, h3, q⟩ := h
  exact ⟨_, en2, by simp only [mLend, e, h2, h3, if_true], q⟩
theorem w_perm {π : List Nat} (h : O2 (gm en) fun ms en1 => ms.length = m ∧ QM (permL π ms) en1) : O2 (mPerm m π gm en) QM := by
  obtain ⟨ds, en2, h2, h3, q⟩ := h
  exact ⟨_, en2, by simp only [mPerm, h2, h3, if_true], q⟩
theorem w_callF {F : FF} (h : O2 (gm en) fun ms en1 => (handOk P' ms = true ∧ noB ms = true ∧ ms.length = n) ∧ O2 (F (ms.map (mdSl en1))) fun d as' => Q d (putBack ms 0 as' en1)) : O2 (eCallF P' n F gm en) Q := by
  obtain ⟨ms, en1, h1, h2, d, as', h3, q⟩ := h
  exact ⟨_, _, by simp only [eCallF, h1, h2, h3, and_self, if_true], q⟩
theorem w_lcallF {F : FFL} (h : O2 (gm en) fun ms en1 => (handOk P' ms = true ∧ noB ms = true ∧ ms.length = n) ∧ O2 (F (ms.map (mdSl en1))) fun d as' => QL d (putBack ms 0 as' en1)) : O2 (lCallF P' n F gm en) QL := by
  obtain ⟨ms, en1, h1, h2, d, as', h3, q⟩ := h
  exact ⟨_, _, by simp only [lCallF, h1, h2, h3, and_self, if_true], q⟩
theorem w_dcallF {F : FFD} {QR : DR → En → Prop} (h : O2 (gm en) fun ms en1 => (handOk P' ms = true ∧ noB ms = true ∧ ms.length = n) ∧ O2 (F (ms.map (mdSl en1))) fun d as' => QR d (putBack ms 0 as' en1)) : O2 (dCallF P' n F gm en) QR := by
  obtain ⟨ms, en1, h1, h2, d, as', h3, q⟩ := h
  exact ⟨_, _, by simp only [dCallF, h1, h2, h3, and_self, if_true], q⟩
theorem w_listD {l : Bool} {kvs : DKV} (e : en[i]? = some (.dc ⟨false, l⟩ kvs)) (q : QL (kvs.map fun p => kToD false p.1) en) : O2 (lKeysD i en) QL := ⟨_, _, by simp only [lKeysD, e], q⟩
theorem w_rep {k : Int} {f : FL} (h : O2 (f en) fun ds en1 => (0 ≤ k ∧ k < 1000 ∧ ds.length * k.toNat ≤ sizeLine) ∧ QL (List.replicate k.toNat ds).flatten en1) : O2 (lRep k f en) QL := by
  obtain ⟨ds, en1, h1, h2, q⟩ := h
  exact ⟨_, _, by simp only [lRep, h1, h2, and_self, if_true], q⟩
theorem w_callB {F : FF} (h : O2 (gm en) fun ms en1 => (noO ms = true ∧ ms.length = n) ∧ O2 (F (ms.map (mdSl en1))) fun d _ => flatD d = true ∧ Q d en1) : O2 (eCallB n F gm en) Q := by
  obtain ⟨ms, en1, h1, h2, d, as', h3, h4, q⟩ := h
  exact ⟨_, _, by simp only [eCallB, h1, h2, h3, h4, and_self, if_true], q⟩
theorem w_callU {F : FF} (h : O2 (g en) fun ds en1 => ds.length = n ∧ O2 (F (ds.map Sl.va)) fun d _ => flatD d = true ∧ Q d en1) : O2 (eCallU n F g en) Q := by
  obtain ⟨ms, en1, h1, h2, d, as', h3, h4, q⟩ := h
  exact ⟨_, _, by simp only [eCallU, h1, h2, h3, h4, if_true], q⟩
def itD : D → Option (List D)
  | .list ds => some ds
  | .tuple ds => some ds
  | _ => none
theorem w_items (h : O2 (f en) fun d en1 => O1 (itD d) fun ds => QL ds en1) : O2 (iItems f en) QL := by
  obtain ⟨d, en1, h1, ds, h2, q⟩ := h
  refine ⟨ds, en1, ?_, q⟩
  cases d <;> first | (cases h2; simp only [iItems, h1]) | cases h2
theorem w_range1 (h : O2 (g en) fun ds en1 => ∃ j, ds = [.int j] ∧ (-(2 ^ 62) ≤ j ∧ j < 2 ^ 62) ∧ QL (rangeD 0 j.toNat) en1) : O2 (iRange1 g en) QL := by
  obtain ⟨ds, en1, h1, j, rfl, h2, q⟩ := h
  exact ⟨_, _, by simp only [iRange1, h1, h2, and_self, if_true], q⟩
theorem w_range2 (h : O2 (g en) fun ds en1 => ∃ i j, ds = [.int i, .int j] ∧ (-(2 ^ 62) ≤ i ∧ i < 2 ^ 62 ∧ -(2 ^ 62) ≤ j ∧ j < 2 ^ 62) ∧ QL (rangeD i (j - i).toNat) en1) : O2 (iRange2 g en) QL := by
  obtain ⟨ds, en1, h1, i, j, rfl, h2, q⟩ := h
  exact ⟨_, _, by simp only [iRange2, h1, h2, and_self, if_true], q⟩
def zpD : List D → Option (List D)
  | [.list xs, .list ys] => some (zipD xs ys)
  | [.tuple xs, .tuple ys] => some (zipD xs ys)
  | _ => none
theorem w_zip (h : O2 (g en) fun ds en1 => O1 (zpD ds) fun es => QL es en1) : O2 (iZipD g en) QL := by
  obtain ⟨ds, en1, h1, es, h2, q⟩ := h
  refine ⟨es, en1, ?_, q⟩
  unfold zpD at h2
  split at h2 <;> first | (cases h2; simp only [iZipD, h1]) | cases h2
theorem w_for {k : FG} (h : O2 (l en) fun ds en1 => O1 (forD (turnD k s) ds en1) QO) : O1 (sFor l k s en) QO := by
  obtain ⟨ds, en1, h1, o, h2, q⟩ := h
  exact ⟨o, by simp only [sFor, h1, h2], q⟩
/-- while, with an invariant and a measure -/
theorem w_while {t : FT} {f : FS} {QO : Out → Prop} (I : Nat → En → Prop) (hI : ∀ m en, I m en → O2 (t en) fun b en1 => (b = true → O1 (f en1) fun o => ∃ en2 m', (o = .nx en2 ∨ o = .ct en2) ∧ m' < m ∧ I m' en2) ∧ (b = false → QO (.nx en1))) : ∀ (n m : Nat) (en : En), I m en → m < n → O1 (sWhile n t f en) QO
  | 0, m, en, _, hn => absurd hn (Nat.not_lt_zero m)
  | n + 1, m, en, h, hn => by
    obtain ⟨b, en1, h1, h2, h3⟩ := hI m en h
    cases b with
    | false => exact ⟨_, by simp only [sWhile, whD, h1], h3 rfl⟩
    | true =>
      obtain ⟨o, h4, en2, m', h5, h6, h7⟩ := h2 rfl
      obtain ⟨o2, h8, h9⟩ := w_while I hI n m' en2 h7 (by omega)
      refine ⟨o2, ?_, h9⟩
      have h8 : whD t f n en2 = some o2 := h8
      rcases h5 with rfl | rfl <;> simp only [sWhile, whD, h1, h4, h8]
theorem w_turn {k : FG} {d : D} (h : O1 (k d en) fun en1 => O1 (s en1) QO) : O1 (turnD k s d en) QO := by
  obtain ⟨en1, h1, o, h2, q⟩ := h
  exact ⟨o, by simp only [turnD, h1, h2], q⟩
theorem w_comp {k : FG} {vs : List Nat} (h : O2 (l en) fun ds en1 => O2 (compD k t f vs ds (wipeE en1 vs) []) QL) : O2 (lComp l k t f vs en) QL := by
  obtain ⟨ds, en1, h1, o, en2, h2, q⟩ := h
  exact ⟨o, en2, by simp only [lComp, h1, h2], q⟩
theorem w_dcomp {k : FG} {fk : FE} {vs : List Nat} {QR : DR → En → Prop} (h : O2 (l en) fun ds en1 => O2 (compK k t fk f vs ds (wipeE en1 vs) []) fun acc en2 => QR (false, acc) en2) : O2 (dComp l k t fk f vs en) QR := by
  obtain ⟨ds, en1, h1, o, en2, h2, q⟩ := h
  exact ⟨_, en2, by simp only [dComp, h1, h2], q⟩
theorem w_dcompT {k : FG} {fk : FE} {vs : List Nat} {QR : DR → En → Prop} (h : O2 (l en) fun ds en1 => O2 (compT k t fk f vs ds (wipeE en1 vs) []) fun acc en2 => QR (true, acc) en2) : O2 (dCompT l k t fk f vs en) QR := by
  obtain ⟨ds, en1, h1, o, en2, h2, q⟩ := h
  exact ⟨_, en2, by simp only [dCompT, h1, h2], q⟩
theorem w_onone {QI : Option Int → En → Prop} (q : QI none en) : O2 (oNone en) QI := ⟨_, _, rfl, q⟩
theorem w_osome {QI : Option Int → En → Prop} (h : O2 (f en) fun d en1 => ∃ i, d = .int i ∧ QI (some i) en1) : O2 (oSome f en) QI := by
  obtain ⟨d, en1, h1, i, rfl, q⟩ := h
  exact ⟨_, _, by simp only [oSome, h1], q⟩
theorem w_slice {fl fh : FO} (h : O2 (f en) fun d en1 => O2 (fl en1) fun lo en2 => O2 (fh en2) fun hi en3 => O1 (sliceD d lo hi) fun z => Q z en3) : O2 (eSl f fl fh en) Q := by
  obtain ⟨d, en1, h1, lo, en2, h2, hi, en3, h3, z, h4, q⟩ := h
  exact ⟨_, _, by simp only [eSl, h1, h2, h3, h4], q⟩
theorem w_sliceA {fl fh : FO} (h : O2 (f en) fun d en1 => O2 (fl en1) fun lo en2 => O2 (fh en2) fun hi en3 => ∃ xs, d = .tuple xs ∧ Q (.tuple (cutD xs lo hi)) en3) : O2 (eSlA f fl fh en) Q := by
  obtain ⟨d, en1, h1, lo, en2, h2, hi, en3, h3, xs, rfl, q⟩ := h
  exact ⟨_, _, by simp only [eSlA, h1, h2, h3, sliceA], q⟩
theorem w_idx {fb : FE} (h : O2 (f en) fun d en1 => O2 (fb en1) fun z en2 => ∃ (ns : List Int) (n : Int) (j : Nat), d = .list (ns.map .int) ∧ z = .int n ∧ ns.findIdx? (fun m => decide (m = n)) = some j ∧ Q (.int (j : Int)) en2) : O2 (eIdx f fb en) Q := by
  obtain ⟨d, en1, h1, z, en2, h2, ns, n, j, rfl, rfl, h3, q⟩ := h
  exact ⟨_, _, by simp only [eIdx, h1, h2, intsOf_map, h3], q⟩
theorem w_rg1 (h : O2 (f en) fun d en1 => ∃ j, d = .int j ∧ (0 ≤ j ∧ j ≤ 1000) ∧ QL (rangeD 0 j.toNat) en1) : O2 (lRg1 f en) QL := by
  obtain ⟨d, en1, h1, j, rfl, h2, q⟩ := h
  exact ⟨_, _, by simp only [lRg1, h1, h2, and_self, if_true], q⟩
theorem w_rg2 {fb : FE} (h : O2 (f en) fun d en1 => O2 (fb en1) fun y en2 => ∃ i j, d = .int i ∧ y = .int j ∧ ((0 ≤ i ∧ i ≤ 1000) ∧ 0 ≤ j ∧ j ≤ 1000) ∧ QL (rangeD i (j - i).toNat) en2) : O2 (lRg2 f fb en) QL := by
  obtain ⟨d, en1, h1, y, en2, h2, i, j, rfl, rfl, h3, q⟩ := h
  exact ⟨_, _, by simp only [lRg2, h1, h2, h3, and_self, if_true], q⟩
theorem w_eqD {neg : Bool} {fd : FDc} (e : isDc en[i]? = true) (h : O2 (fd en) fun r en1 => ∃ ks, en1[i]? = some (.dc ⟨true, false⟩ ks) ∧ (r.1 = true ∧ sameD ks r.2 = true) ∧ Q (.bool (!neg)) en1) : O2 (eEqD neg i fd en) Q := by
  obtain ⟨r, en1, h1, ks, h2, h3, q⟩ := h
  exact ⟨_, _, by simp only [eEqD, e, h1, h2, h3, and_self, if_true], q⟩
theorem w_movD {j : Nat} {t : Bool} {kvs : DKV} (e : en[j]? = some (.dc ⟨t, false⟩ kvs)) (hc : j ∉ P ∧ i ≠ j ∧ i < en.length) (q : QO (.nx ((en.set j .un).set i (.dc ⟨t, false⟩ kvs)))) : O1 (sMovD P i j en) QO := ⟨_, by simp only [sMovD, e]; exact if_pos hc, q⟩
theorem w_told {f0 f1 : FUL} {fT : En → Option Bool} {fr g : FS} (h : O1 (f0 en) fun l0 => O1 (f1 en) fun l1 => (i < en.length ∧ isOwnO en[i]? = false ∧ l0.all flatD = true ∧ l1.all flatD = true ∧ l0.length < sizeLine ∧ l1.length < sizeLine) ∧
    O1 (fT (en.set i (.va (.list [.list l0, .list l1])))) fun b => if b = true then O1 (g (en.set i .un)) QO else O1 (fr (en.set i (.va (.list [.list l0, .list l1])))) fun o => ∃ d en2, o = .rt d en2 ∧ QO o) : O1 (sTold i f0 f1 fT fr g en) QO := by
  obtain ⟨l0, h0, l1, h1, hc, b, hb, q⟩ := h
  unfold sTold
  simp only [h0, h1]
  rw [if_pos hc]
  simp only [hb]
  cases b with
  | true => exact q
  | false =>
    obtain ⟨o, e, d, en2, rfl, q'⟩ := q
    exact ⟨_, by simp only [e], q'⟩
theorem w_isi {T : String} (h : O2 (f en) fun d en1 => Q (.bool (isiD d T)) en1) : O2 (eIsi T f en) Q := by
  obtain ⟨d, en1, h1, q⟩ := h
  exact ⟨_, _, by simp only [eIsi, h1], q⟩
theorem w_isi2 {T U : String} (h : O2 (f en) fun d en1 => Q (.bool (isiD d T || isiD d U)) en1) : O2 (eIsi2 T U f en) Q := by
  obtain ⟨d, en1, h1, q⟩ := h
  exact ⟨_, _, by simp only [eIsi2, h1], q⟩
theorem w_typ {neg : Bool} {T : String} (h : O2 (f en) fun d en1 => Q (.bool (if neg then !decide (typD d = T) else decide (typD d = T))) en1) : O2 (eTyp neg T f en) Q := by
  obtain ⟨d, en1, h1, q⟩ := h
  exact ⟨_, _, by simp only [eTyp, h1], q⟩
theorem w_nnew (h : O2 (l en) fun ds en1 => ds.all flatD = true ∧ Q (.list ds) en1) : O2 (nNew l en) Q := by
  obtain ⟨d, en1, h1, h2, q⟩ := h
  exact ⟨_, _, by simp only [nNew, h1, h2, if_true], q⟩
theorem w_nvar {d : D} (e : en[i]? = some (.vn d)) (q : Q d en) : O2 (nVar P i en) Q := ⟨_, _, by simp only [nVar, e], q⟩
theorem w_nvarO {ds : List D} (e : en[i]? = some (.ow ds)) (hi : i ∉ P) (hf : ds.all flatD = true) (q : Q (.list ds) (en.set i (.vn (.list ds)))) : O2 (nVar P i en) Q := ⟨_, _, by simp only [nVar, e]; exact if_pos ⟨hi, hf⟩, q⟩
theorem w_spoil (h : O2 (f en) fun d en1 => ∃ ds, d = .list ds ∧ (ds.all (roomL ds.length) = true ∧ en1.all ownLf = true ∧ isOwnO en1[i]? = false ∧ i < en1.length) ∧ QO (.nx ((en1.map clean).set i .un))) : O1 (sSpoil i f en) QO := by
  obtain ⟨d, en1, h1, ds, rfl, h2, q⟩ := h
  exact ⟨_, by simp only [sSpoil, h1, h2, and_self, if_true], q⟩
theorem w_newD {t : Bool} (hl : i < en.length) (q : QO (.nx (en.set i (.dc ⟨t, false⟩ [])))) : O1 (sNewD i t en) QO := ⟨_, by simp only [sNewD, hl, if_true], q⟩
theorem w_putD (h : O2 (fa en) fun d en1 => isDc en1[i]? = true ∧ O2 (fb en1) fun z en2 => ∃ t kvs k, en2[i]? = some (.dc ⟨t, false⟩ kvs) ∧ keyD t z = some k ∧ kvs.length < sizeLine ∧ QO (.nx (en2.set i (.dc ⟨t, false⟩ (putD kvs k d))))) : O1 (sPutD i fa fb en) QO := by
  obtain ⟨d, en1, h1, h2, z, en2, h3, t, kvs, k, h4, h5, h6, q⟩ := h
  exact ⟨_, by simp only [sPutD, h1, h2, h3, h4, h5, h6, if_true], q⟩
theorem w_getD (e : isDc en[i]? = true) (h : O2 (f en) fun z en1 => ∃ t kvs k d, en1[i]? = some (.dc t kvs) ∧ keyD t.t z = some k ∧ valD kvs k = some d ∧ Q d en1) : O2 (eGetD i f en) Q := by
  obtain ⟨z, en1, h1, t, kvs, k, d, h2, h3, h4, q⟩ := h
  exact ⟨_, _, by simp only [eGetD, e, h1, h2, h3, h4, if_true], q⟩
theorem w_getDf (e : isDc en[i]? = true) (h : O2 (fa en) fun z en1 => O2 (fb en1) fun y en2 => ∃ t kvs k, en2[i]? = some (.dc t kvs) ∧ keyD t.t z = some k ∧ Q ((valD kvs k).getD y) en2) : O2 (eGetDf i fa fb en) Q := by
  obtain ⟨z, en1, h1, y, en2, h2, t, kvs, k, h3, h4, q⟩ := h
  exact ⟨_, _, by simp only [eGetDf, e, h1, h2, h3, h4, if_true], q⟩
theorem w_inD {neg : Bool} (h : O2 (fa en) fun z en1 => ∃ t kvs k, en1[i]? = some (.dc t kvs) ∧ keyD t.t z = some k ∧ Q (.bool (if neg then !(valD kvs k).isSome else (valD kvs k).isSome)) en1) : O2 (eInD neg fa i en) Q := by
  obtain ⟨z, en1, h1, t, kvs, k, h3, h4, q⟩ := h
  exact ⟨_, _, by simp only [eInD, h1, h3, h4], q⟩
theorem w_sortedDK {kvs : DKV} {ns : List Int} (e : en[i]? = some (.dc ⟨false, false⟩ kvs)) (h : intKeys kvs = some ns) (q : QL ((sortI ns).map .int) en) : O2 (lSortedDK i en) QL := ⟨_, _, by simp only [lSortedDK, e, h], q⟩
theorem w_downDK {kvs : DKV} {ns : List Int} (e : en[i]? = some (.dc ⟨false, false⟩ kvs)) (h : intKeys kvs = some ns) (q : QL ((downI ns).map .int) en) : O2 (lDownDK i en) QL := ⟨_, _, by simp only [lDownDK, e, h], q⟩
theorem w_rev {f : FE} (h : O2 (f en) fun d en1 => ∃ ds, d = .list ds ∧ QL ds.reverse en1) : O2 (lRev f en) QL := by
  obtain ⟨d, en1, h1, ds, rfl, q⟩ := h
  exact ⟨_, _, by simp only [lRev, h1], q⟩
theorem w_asg2 {f : FE} {k1 k2 : FG} (h : O2 (f en) fun d en1 => O1 (k1 d en1) fun en2 => O1 (k2 d en2) fun en3 => QO (.nx en3)) : O1 (sAsg2 f k1 k2 en) QO := by
  obtain ⟨d, en1, h1, en2, h2, en3, h3, q⟩ := h
  exact ⟨_, by simp only [sAsg2, h1, h2, h3], q⟩
theorem w_asg3 {f : FE} {k1 k2 k3 : FG} (h : O2 (f en) fun d en1 => O1 (k1 d en1) fun en2 => O1 (k2 d en2) fun en3 => O1 (k3 d en3) fun en4 => QO (.nx en4)) : O1 (sAsg3 f k1 k2 k3 en) QO := by
  obtain ⟨d, en1, h1, en2, h2, en3, h3, en4, h4, q⟩ := h
  exact ⟨_, by simp only [sAsg3, h1, h2, h3, h4], q⟩
theorem w_keysT {l : Bool} {kvs : DKV} (e : en[i]? = some (.dc ⟨true, l⟩ kvs)) (q : QL (kvs.map fun p => kToD true p.1) en) : O2 (lKeysT i en) QL := ⟨_, _, by simp only [lKeysT, e], q⟩
theorem w_keysD {t : Bool} {kvs : DKV} (e : en[i]? = some (.dc ⟨t, true⟩ kvs)) (q : QL (kvs.map fun p => kToD t p.1) en) : O2 (iKeysD i en) QL := ⟨_, _, by simp only [iKeysD, e], q⟩
theorem w_lockD {t : Bool} {kvs : DKV} (e : en[i]? = some (.dc ⟨t, false⟩ kvs)) (h : O2 (l (en.set i (.dc ⟨t, true⟩ kvs))) fun ds en1 => ∃ t' kvs', en1[i]? = some (.dc ⟨t', true⟩ kvs') ∧ QL ds (en1.set i (.dc ⟨t', false⟩ kvs'))) : O2 (lLockD i l en) QL := by
  obtain ⟨ds, en1, h1, t', kvs', h2, q⟩ := h
  exact ⟨_, _, by simp only [lLockD, e, h1, h2], q⟩
theorem w_par2 {j : Nat} (h : O2 (g en) fun ds en1 => ∃ d1 d2, ds = [d1, d2] ∧ QO (.nx ((en1.set i (.va d1)).set j (.va d2)))) : O1 (sPar2 i j g en) QO := by
  obtain ⟨ds, en1, h1, d1, d2, rfl, q⟩ := h
  exact ⟨_, by simp only [sPar2, h1], q⟩
theorem w_sortSetT {f : FE} (h : O2 (f en) fun d en1 => ∃ ps : List (Int × Int), d = .list (ps.map pairD) ∧ (ps.length < 64 ∧ (ps.all fun q => decide (0 ≤ q.1) && decide (0 ≤ q.2)) = true) ∧ QL ((setP ps).map pairD) en1) : O2 (lSortSetT f en) QL := by
  obtain ⟨d, en1, h1, ps, rfl, h2, q⟩ := h
  exact ⟨_, _, by simp only [lSortSetT, h1, pairsOf_map]; rw [if_pos h2], q⟩
theorem w_sortSet {f : FE} (h : O2 (f en) fun d en1 => ∃ ns : List Int, d = .list (ns.map .int) ∧ ns.length ≤ 1000 ∧ QL ((setI ns).map .int) en1) : O2 (lSortSet f en) QL := by
  obtain ⟨d, en1, h1, ns, rfl, h2, q⟩ := h
  exact ⟨_, _, by simp only [lSortSet, h1, intsOf_map, h2, if_true], q⟩
theorem w_clr {ds : List D} (e : en[i]? = some (.ow ds)) (q : QO (.nx (en.set i (.ow [])))) : O1 (sClr i en) QO := ⟨_, by simp only [sClr, e], q⟩
theorem w_ext (e : isOw en[i]? = true) (h : O2 (l en) fun es en1 => ∃ ds, en1[i]? = some (.ow ds) ∧ ds.length + es.length ≤ sizeLine ∧ QO (.nx (en1.set i (.ow (ds ++ es))))) : O1 (sExt i l en) QO := by
  obtain ⟨es, en1, h1, ds, h2, h3, q⟩ := h
  exact ⟨_, by simp only [sExt, e, h1, h2, h3, if_true], q⟩
theorem w_inC {neg : Bool} {ws : List Str} {f : FE} (h : O2 (f en) fun d en1 => ∃ x, d = .str x ∧ Q (.bool (if neg then !decide (x ∈ ws) else decide (x ∈ ws))) en1) : O2 (eInC neg ws f en) Q := by
  obtain ⟨d, en1, h1, x, rfl, q⟩ := h
  exact ⟨_, _, by simp only [eInC, h1], q⟩
theorem w_sortAt {rev : Bool} {f : FE} (h : O2 (f en) fun d en1 => ∃ (ns : List Int) (ms : List D), d = .list (ns.map .int) ∧ keyList en1 i = some ms ∧ (∀ n ∈ ns, (intAt ms n).isSome = true) ∧ QL ((sortBy rev (fun n => (intAt ms n).getD 0) ns).map .int) en1) : O2 (lSortAt i rev f en) QL := by
  obtain ⟨d, en1, h1, ns, ms, rfl, h2, h3, q⟩ := h
  exact ⟨_, _, by simp only [lSortAt, h1, intsOf_map, h2, List.all_eq_true.mpr h3, if_true], q⟩
theorem w_sortDay {f : FE} (h : O2 (f en) fun d en1 => ∃ (ns : List Int) (ms : List D), d = .list (ns.map .int) ∧ en1[i]? = some (.va (.tuple ms)) ∧ (∀ n ∈ ns, (dayOf ms n).isSome = true) ∧ QL ((sortDay (fun n => (dayOf ms n).getD 0) ns).map .int) en1) : O2 (lSortDay i f en) QL := by
  obtain ⟨d, en1, h1, ns, ms, rfl, h2, h3, q⟩ := h
  exact ⟨_, _, by simp only [lSortDay, h1, intsOf_map, h2, List.all_eq_true.mpr h3, if_true], q⟩
theorem w_uvar {d : D} {QU : D → Prop} (e : en[i]? = some (.va d)) (q : QU d) : O1 (uVar i en) QU := ⟨_, by simp only [uVar, e], q⟩
theorem w_uvarN {d : D} {QU : D → Prop} (e : en[i]? = some (.vn d)) (q : QU d) : O1 (uVar i en) QU := ⟨_, by simp only [uVar, e], q⟩
theorem w_uvarO {d : List D} {QU : D → Prop} (e : en[i]? = some (.ow d)) (q : QU (.list d)) : O1 (uVar i en) QU := ⟨_, by simp only [uVar, e], q⟩
theorem w_ucons {fu : FU} {gu : FUL} {QU : List D → Prop} (h : O1 (fu en) fun d => O1 (gu en) fun ds => QU (d :: ds)) : O1 (ulCons fu gu en) QU := by
  obtain ⟨d, h1, ds, h2, q⟩ := h
  exact ⟨_, by simp only [ulCons, h1, h2], q⟩
theorem w_ulst {gu : FUL} {QU : D → Prop} (h : O1 (gu en) fun ds => ds.length ≤ sizeLine ∧ QU (.list ds)) : O1 (uLst gu en) QU := by
  obtain ⟨ds, h1, h2, q⟩ := h
  exact ⟨_, by simp only [uLst, h1, h2, if_true], q⟩
theorem w_utup {gu : FUL} {QU : D → Prop} (h : O1 (gu en) fun ds => ds.length ≤ sizeLine ∧ QU (.tuple ds)) : O1 (uTup gu en) QU := by
  obtain ⟨ds, h1, h2, q⟩ := h
  exact ⟨_, by simp only [uTup, h1, h2, if_true], q⟩
theorem w_some {α : Type} {a : α} {QU : α → Prop} (q : QU a) : O1 (some a) QU := ⟨_, rfl, q⟩
theorem w_auend {gu : FUL} (h : O1 (gu en) fun ds => QL ds en) : O2 (auEnd gu en) QL := by
  obtain ⟨ds, h1, q⟩ := h
  exact ⟨_, _, by simp only [auEnd, h1], q⟩
theorem w_ii {c : Int → Int → Bool} {k : Int → Int → D} {i j : Int} {QU : D → Prop} (h : c i j = true) (q : QU (k i j)) : O1 (gII c k (.int i) (.int j)) QU := ⟨_, by simp only [gII, h, if_true], q⟩
def fnQ (Q : D → En → Prop) : Out → Prop
  | .rt d en => Q d en
  | .nx en => Q .none en
  | .rf ds en => Q (.list ds) en
  | _ => False
def fnQL (Q : List D → En → Prop) : Out → Prop
  | .rf ds en => Q ds en
  | _ => False
def fnQD (Q : DR → En → Prop) : Out → Prop
  | .rd t kvs en => Q (t, kvs) en
  | _ => False
theorem w_fnD {Q : DR → En → Prop} (m : Nat) {as : En} (h : O1 (s (as ++ List.replicate (m - as.length) .un)) (fnQD Q)) : O2 (fnD m s as) Q := by
  obtain ⟨o, h1, q⟩ := h
  cases o <;> first | exact ⟨_, _, by simp only [fnD, h1], q⟩ | exact q.elim
theorem w_fn (m : Nat) {as : En} (h : O1 (s (as ++ List.replicate (m - as.length) .un)) (fnQ Q)) : O2 (fnV m s as) Q := by
  obtain ⟨o, h1, q⟩ := h
  cases o <;> first | exact ⟨_, _, by simp only [fnV, h1], q⟩ | exact q.elim
theorem w_fnL (m : Nat) {as : En} (h : O1 (s (as ++ List.replicate (m - as.length) .un)) (fnQL QL)) : O2 (fnL m s as) QL := by
  obtain ⟨o, h1, q⟩ := h
  cases o <;> first | exact ⟨_, _, by simp only [fnL, h1], q⟩ | exact q.elim
/-- a comprehension over mapped things, each turn of which leaves the slots as they are -/
theorem compD_map {α : Type} {k : FG} {vs : List Nat} {e : α → D} {q : α → Option D} {en0 : En} : ∀ (L : List α) (acc : List D), acc.length + L.length ≤ sizeLine →
    (∀ a ∈ L, O1 (k (e a) en0) fun en1 => O2 (t en1) fun b en2 => (b = false → q a = none ∧ wipeE en2 vs = en0) ∧ (b = true → O2 (f en2) fun y en3 => q a = some y ∧ wipeE en3 vs = en0)) → compD k t f vs (L.map e) en0 acc = some (acc ++ L.filterMap q, en0)
  | [], acc, _, _ => by simp [compD]
  | a :: L, acc, hl, h => by
    obtain ⟨en1, h1, b, en2, h2, q1, q2⟩ := h a (by simp)
    rw [List.map_cons]
    unfold compD
    simp only [h1, h2]
    cases b with
    | false =>
      obtain ⟨q3, q4⟩ := q1 rfl
      simp only
      rw [q4, compD_map L acc (by simp at hl ⊢; omega) fun a ha => h a (List.mem_cons_of_mem _ ha), List.filterMap_cons, q3]
    | true =>
      obtain ⟨y, en3, h3, q3, q4⟩ := q2 rfl
      simp only [h3]
      rw [if_pos (by simp at hl; omega), q4, compD_map L (acc ++ [y]) (by simp at hl ⊢; omega) fun a ha => h a (List.mem_cons_of_mem _ ha), List.filterMap_cons, q3]
      simp
theorem w_compD {α : Type} {k : FG} {vs : List Nat} {e : α → D} (q : α → Option D) {L : List α} (hl : L.length ≤ sizeLine)
    (h : ∀ a ∈ L, O1 (k (e a) en) fun en1 => O2 (t en1) fun b en2 => (b = false → q a = none ∧ wipeE en2 vs = en) ∧ (b = true → O2 (f en2) fun y en3 => q a = some y ∧ wipeE en3 vs = en)) (hq : QL (L.filterMap q) en) : O2 (compD k t f vs (L.map e) en []) QL :=
  ⟨_, _, by rw [compD_map L [] (by simpa using hl) h]; rfl, hq⟩
/-- a dict comprehension, likewise: what it gives is put in, one behind the other -/
def putK0 (acc : DKV) (p : Key × D) : DKV := putD acc [p.1] p.2
theorem putK0_len (acc : DKV) (p : Key × D) : (putK0 acc p).length ≤ acc.length + 1 := by
  unfold putK0 putD
  split <;> simp
theorem compK_map {α : Type} {k : FG} {fk : FE} {vs : List Nat} {e : α → D} {q : α → Option (Key × D)} {en0 : En} : ∀ (L : List α) (acc : DKV), acc.length + L.length ≤ sizeLine →
    (∀ a ∈ L, O1 (k (e a) en0) fun en1 => O2 (t en1) fun b en2 => (b = false → q a = none ∧ wipeE en2 vs = en0) ∧ (b = true → O2 (fk en2) fun z en3 => O2 (f en3) fun y en4 => ∃ k0, keyD false z = some [k0] ∧ q a = some (k0, y) ∧ wipeE en4 vs = en0)) → compK k t fk f vs (L.map e) en0 acc = some ((L.filterMap q).foldl putK0 acc, en0)
  | [], acc, _, _ => by simp [compK]
  | a :: L, acc, hl, h => by
    obtain ⟨en1, h1, b, en2, h2, q1, q2⟩ := h a (by simp)
    rw [List.map_cons]
    unfold compK
    simp only [h1, h2]
    simp only [List.length_cons] at hl
    cases b with
    | false =>
      obtain ⟨q3, q4⟩ := q1 rfl
      simp only
      rw [q4, compK_map L acc (by omega) fun a ha => h a (List.mem_cons_of_mem _ ha), List.filterMap_cons, q3]
    | true =>
      obtain ⟨z, en3, h3, y, en4, h4, k0, h5, q3, q4⟩ := q2 rfl
      have hp := putK0_len acc (k0, y)
      simp only [h3, h4, h5]
      rw [if_pos (by omega), q4, show putD acc [k0] y = putK0 acc (k0, y) from rfl, compK_map L (putK0 acc (k0, y)) (by omega) fun a ha => h a (List.mem_cons_of_mem _ ha), List.filterMap_cons, q3]
      rfl
theorem w_compK {α : Type} {k : FG} {fk : FE} {vs : List Nat} {e : α → D} {QR : DKV → En → Prop} (q : α → Option (Key × D)) {L : List α} (hl : L.length ≤ sizeLine)
    (h : ∀ a ∈ L, O1 (k (e a) en) fun en1 => O2 (t en1) fun b en2 => (b = false → q a = none ∧ wipeE en2 vs = en) ∧ (b = true → O2 (fk en2) fun z en3 => O2 (f en3) fun y en4 => ∃ k0, keyD false z = some [k0] ∧ q a = some (k0, y) ∧ wipeE en4 vs = en)) (hq : QR ((L.filterMap q).foldl putK0 []) en) : O2 (compK k t fk f vs (L.map e) en []) QR :=
  ⟨_, _, by rw [compK_map L [] (by simpa using hl) h], hq⟩
abbrev putT0 (acc : DKV) (p : List Key × D) : DKV := putD acc p.1 p.2
theorem putT0_len (acc : DKV) (p : List Key × D) : (putT0 acc p).length ≤ acc.length + 1 := by
  unfold putT0 putD
  split <;> simp
theorem compT_map {α : Type} {k : FG} {fk : FE} {vs : List Nat} {e : α → D} {q : α → Option (List Key × D)} {en0 : En} : ∀ (L : List α) (acc : DKV), acc.length + L.length ≤ sizeLine →
    (∀ a ∈ L, O1 (k (e a) en0) fun en1 => O2 (t en1) fun b en2 => (b = false → q a = none ∧ wipeE en2 vs = en0) ∧ (b = true → O2 (fk en2) fun z en3 => O2 (f en3) fun y en4 => ∃ k0, keyD true z = some k0 ∧ q a = some (k0, y) ∧ wipeE en4 vs = en0)) → compT k t fk f vs (L.map e) en0 acc = some ((L.filterMap q).foldl putT0 acc, en0)
  | [], acc, _, _ => by simp [compT]
  | a :: L, acc, hl, h => by
    obtain ⟨en1, h1, b, en2, h2, q1, q2⟩ := h a (by simp)
    rw [List.map_cons]
    unfold compT
    simp only [h1, h2]
    simp only [List.length_cons] at hl
    cases b with
    | false =>
      obtain ⟨q3, q4⟩ := q1 rfl
      simp only
      rw [q4, compT_map L acc (by omega) fun a ha => h a (List.mem_cons_of_mem _ ha), List.filterMap_cons, q3]
    | true =>
      obtain ⟨z, en3, h3, y, en4, h4, k0, h5, q3, q4⟩ := q2 rfl
      have hp := putT0_len acc (k0, y)
      simp only [h3, h4, h5]
      rw [if_pos (by omega), q4, show putD acc k0 y = putT0 acc (k0, y) from rfl, compT_map L (putT0 acc (k0, y)) (by omega) fun a ha => h a (List.mem_cons_of_mem _ ha), List.filterMap_cons, q3]
      rfl
theorem w_compT {α : Type} {k : FG} {fk : FE} {vs : List Nat} {e : α → D} {QR : DKV → En → Prop} (q : α → Option (List Key × D)) {L : List α} (hl : L.length ≤ sizeLine)
    (h : ∀ a ∈ L, O1 (k (e a) en) fun en1 => O2 (t en1) fun b en2 => (b = false → q a = none ∧ wipeE en2 vs = en) ∧ (b = true → O2 (fk en2) fun z en3 => O2 (f en3) fun y en4 => ∃ k0, keyD true z = some k0 ∧ q a = some (k0, y) ∧ wipeE en4 vs = en)) (hq : QR ((L.filterMap q).foldl putT0 []) en) : O2 (compT k t fk f vs (L.map e) en []) QR :=
  ⟨_, _, by rw [compT_map L [] (by simpa using hl) h], hq⟩
/-- a walk with an invariant -/
theorem w_forD {α : Type} {body : D → En → Option Out} {e : α → D} (I : Nat → En → Prop) : ∀ (L : List α) (j : Nat) (en : En), I j en → (∀ (i : Nat) (a : α) (en : En), L[i]? = some a → I (j + i) en → O1 (body (e a) en) fun o => ∃ en', o = .nx en' ∧ I (j + i + 1) en') → (∀ en, I (j + L.length) en → QO (.nx en)) → O1 (forD body (L.map e) en) QO
  | [], j, en, h, _, q => ⟨_, rfl, q en h⟩
  | a :: L, j, en, h, hb, q => by
    obtain ⟨o, h1, en1, rfl, h2⟩ := hb 0 a en rfl h
    rw [List.map_cons]
    have ih := w_forD I L (j + 1) en1 h2 (fun i a en e h => by
      have := hb (i + 1) a en (by simpa using e) (by rw [show j + (i + 1) = j + 1 + i by omega]; exact h)
      rw [show j + (i + 1) + 1 = j + 1 + i + 1 by omega] at this
      exact this) (fun en h => q en (by rw [List.length_cons, show j + (L.length + 1) = j + 1 + L.length by omega]; exact h))
    obtain ⟨o, h3, q⟩ := ih
    exact ⟨o, by unfold forD; simp only [h1, h3], q⟩
end

theorem w_geq {d e : D} {QU : D → Prop} (h1 : SeqAt.shaped d = true) (h2 : SeqAt.shaped e = true) (q : QU (.bool (PyData.eqv d e))) : O1 (gEq d e) QU := ⟨_, by simp only [gEq, h1, h2, and_self, if_true], q⟩
theorem w_gne {d e : D} {QU : D → Prop} (h1 : SeqAt.shaped d = true) (h2 : SeqAt.shaped e = true) (q : QU (.bool (!PyData.eqv d e))) : O1 (gNe d e) QU := ⟨_, by simp only [gNe, h1, h2, and_self, if_true], q⟩
theorem w_lenL {xs : List D} {QU : D → Prop} (q : QU (.int xs.length)) : O1 (gLen [.list xs]) QU := ⟨_, rfl, q⟩
theorem w_lenT {xs : List D} {QU : D → Prop} (q : QU (.int xs.length)) : O1 (gLen [.tuple xs]) QU := ⟨_, rfl, q⟩
theorem sz_of {n : Nat} (h : n ≤ 1000) : n ≤ sizeLine := Nat.le_trans h (by decide)
theorem x_bool {b : Bool} {Q : Bool → Prop} (q : Q b) : ∃ b', PyData.bool b = .bool b' ∧ Q b' := ⟨b, rfl, q⟩
theorem x_int {b : Int} {Q : Int → Prop} (q : Q b) : ∃ b', PyData.int b = .int b' ∧ Q b' := ⟨b, rfl, q⟩
theorem x_rng1 {b : Int} {Q : Int → Prop} (q : Q b) : ∃ b', [PyData.int b] = [.int b'] ∧ Q b' := ⟨b, rfl, q⟩
theorem x_rng2 {a b : Int} {Q : Int → Int → Prop} (q : Q a b) : ∃ a' b', [PyData.int a, PyData.int b] = [.int a', .int b'] ∧ Q a' b' := ⟨a, b, rfl, q⟩
theorem x_get {b : Int} {o : Option Sl} {ds : List D} {d : D} {Q : D → Prop} (h1 : o = some (.ow ds)) (h2 : atI ds b = some d) (q : Q d) : ∃ z ds d, PyData.int b = .int z ∧ o = some (.ow ds) ∧ atI ds z = some d ∧ Q d := ⟨b, ds, d, rfl, h1, h2, q⟩
theorem x_put {b : Int} {o : Option Sl} {ds : List D} {j : Nat} {Q : List D → Nat → Prop} (h1 : o = some (.ow ds)) (h2 : ixN ds.length b = some j) (q : Q ds j) : ∃ z ds j, PyData.int b = .int z ∧ o = some (.ow ds) ∧ ixN ds.length z = some j ∧ Q ds j := ⟨b, ds, j, rfl, h1, h2, q⟩
theorem x_app {o : Option Sl} {ds : List D} {Q : List D → Prop} (h1 : o = some (.ow ds)) (q : Q ds) : ∃ ds, o = some (.ow ds) ∧ Q ds := ⟨ds, h1, q⟩
theorem x_isow {o : Option Sl} {Q : Prop} (h1 : isOw o = true) (q : Q) : isOw o = true ∧ Q := ⟨h1, q⟩
theorem x_isowO {o : Option Sl} {Q : Prop} (h1 : isOwnO o = true) (q : Q) : isOwnO o = true ∧ Q := ⟨h1, q⟩
theorem x_isdc {o : Option Sl} {Q : Prop} (h1 : isDc o = true) (q : Q) : isDc o = true ∧ Q := ⟨h1, q⟩
theorem x_two {a b : D} {Q : D → D → Prop} (q : Q a b) : ∃ a' b', [a, b] = [a', b'] ∧ Q a' b' := ⟨a, b, rfl, q⟩
theorem x_lt {i n : Nat} {Q : Prop} (h1 : i < n) (q : Q) : i < n ∧ Q := ⟨h1, q⟩
theorem x_hand {P : List Nat} {ms : List Md} {m n : Nat} {Q : Prop} (h1 : handOk P ms = true) (h2 : noB ms = true) (h3 : m = n) (q : Q) : (handOk P ms = true ∧ noB ms = true ∧ m = n) ∧ Q := ⟨⟨h1, h2, h3⟩, q⟩
theorem x_handB {ms : List Md} {m n : Nat} {Q : Prop} (h2 : noO ms = true) (h3 : m = n) (q : Q) : (noO ms = true ∧ m = n) ∧ Q := ⟨⟨h2, h3⟩, q⟩
theorem x_size {n : Nat} {Q : Prop} (h : n ≤ sizeLine) (q : Q) : n ≤ sizeLine ∧ Q := ⟨h, q⟩
theorem x_len {m n : Nat} {Q : Prop} (h : m = n) (q : Q) : m = n ∧ Q := ⟨h, q⟩
theorem seq_if {t : FT} {s s2 s' : FS} {en : En} {QO : Out → Prop} (h : O1 (sSeq (sIf t s s2) s' en) QO) : O1 (sSeq (sIf t s s2) s' en) QO := h
theorem x_ift {A B : Prop} (h : A) : (true = true → A) ∧ (true = false → B) := ⟨fun _ => h, fun z => nomatch z⟩
theorem x_iff {A B : Prop} (h : B) : (false = true → A) ∧ (false = false → B) := ⟨fun z => (nomatch z), fun _ => h⟩
theorem x_t {b : Bool} {A B : Prop} (e : b = true) (h : A) : (b = true → A) ∧ (b = false → B) := ⟨fun _ => h, fun z => absurd (e.symm.trans z) (by decide)⟩
theorem x_f {b : Bool} {A B : Prop} (e : b = false) (h : B) : (b = true → A) ∧ (b = false → B) := ⟨fun z => absurd (e.symm.trans z) (by decide), fun _ => h⟩
theorem x_tt {A B : Prop} (h : B) : (true = false → A) ∧ (true = true → B) := ⟨fun z => (nomatch z), fun _ => h⟩
theorem x_ff {A B : Prop} (h : A) : (false = false → A) ∧ (false = true → B) := ⟨fun _ => h, fun z => (nomatch z)⟩
/-- the steps, as far as they go -/
theorem st_ {P Q : Prop} (p : P) (h : P → Q := by
    intro p
    repeat (first
      | with_reducible refine w_op ?_
      | with_reducible refine w_var (by with_unfolding_all rfl) ?_
      | with_reducible refine w_varN (by with_unfolding_all rfl) ?_
      | with_reducible refine w_varO (by with_unfolding_all rfl) (by decide) ?_
      | with_reducible refine w_c ?_
      | with_reducible refine w_seq ?_
      | with_reducible refine w_if ?_
      | with_reducible refine w_set ?_
      | with_reducible refine w_bool ?_
      | with_reducible refine w_tru ?_
      | with_reducible refine w_not ?_
      | with_reducible refine w_and ?_
      | with_reducible refine w_or ?_
      | with_reducible refine w_yes ?_
      | with_reducible refine w_eand ?_
      | with_reducible refine w_eor ?_
      | with_reducible refine w_enot ?_
      | with_reducible refine w_eneg ?_
      | with_reducible refine w_eif ?_
      | with_reducible refine w_chain ?_
      | with_reducible refine w_anil ?_
      | with_reducible refine w_acons ?_
      | with_reducible refine w_tup ?_
      | with_reducible refine w_elst ?_
      | with_reducible refine w_llst ?_
      | with_reducible refine w_call ?_
      | with_reducible refine w_lcall ?_
      | with_reducible refine w_new ?_
      | with_reducible refine w_nil ?_
      | with_reducible refine w_drop ?_
      | with_reducible refine w_ret ?_
      | with_reducible refine w_retN ?_
      | with_reducible refine w_retF ?_
      | with_reducible refine w_retO (by with_unfolding_all rfl) (by decide) ?_
      | with_reducible refine w_setN ?_
      | with_reducible refine w_own ?_
      | with_reducible refine w_ownD ?_
      | with_reducible refine w_retD (by with_unfolding_all rfl) (by decide) ?_
      | with_reducible refine w_retDF ?_
      | with_reducible refine w_listD (by with_unfolding_all rfl) ?_
      | with_reducible refine w_asg ?_
      | with_reducible refine w_asg2 ?_
      | with_reducible refine w_asg3 ?_
      | with_reducible refine w_rev ?_
      | with_reducible refine w_rep ?_
      | with_reducible refine w_sortSet ?_
      | with_reducible refine w_sortSetT ?_
      | with_reducible refine w_sortAt ?_
      | with_reducible refine w_sortDay ?_
      | with_reducible refine w_clr (by with_unfolding_all rfl) ?_
      | with_reducible refine w_ext (by with_unfolding_all rfl) ?_
      | with_reducible refine w_inC ?_
      | with_reducible refine w_gnm ?_
      | with_reducible refine w_gtp (by with_unfolding_all rfl) ?_
      | with_reducible refine w_gsnil ?_
      | with_reducible refine w_gscons ?_
      | with_reducible refine w_app (by with_unfolding_all rfl) ?_
      | with_reducible refine w_put ?_
      | with_reducible refine w_get (by with_unfolding_all rfl) ?_
      | with_reducible refine w_getV (by with_unfolding_all rfl) ?_
      | with_reducible refine w_lenO (by with_unfolding_all rfl) ?_
      | with_reducible refine w_newD (by (try simp only [List.length_cons, List.length_nil, List.length_set]); with_unfolding_all decide) ?_
      | with_reducible refine w_putD ?_
      | with_reducible refine w_getD (by with_unfolding_all rfl) ?_
      | with_reducible refine w_getDf (by with_unfolding_all rfl) ?_
      | with_reducible refine w_inD ?_
      | with_reducible refine w_par2 ?_
      | with_reducible refine w_keysD (by with_unfolding_all rfl) ?_
      | with_reducible refine w_keysT (by with_unfolding_all rfl) ?_
      | with_reducible refine w_lockD (by with_unfolding_all rfl) ?_
      | with_reducible refine w_mnil ?_
      | with_reducible refine w_mcons ?_
      | with_reducible refine w_mown (by with_unfolding_all rfl) ?_
      | with_reducible refine w_mlend (by with_unfolding_all rfl) ?_
      | with_reducible refine w_perm ?_
      | with_reducible refine w_callF ?_
      | with_reducible refine w_lcallF ?_
      | with_reducible refine w_dcallF ?_
      | with_reducible refine w_callB ?_
      | with_reducible refine w_callU ?_
      | with_reducible refine w_items ?_
      | with_reducible refine w_range1 ?_
      | with_reducible refine w_range2 ?_
      | with_reducible refine w_zip ?_
      | with_reducible refine w_for ?_
      | with_reducible refine w_comp ?_
      | with_reducible refine w_dcomp ?_
      | with_reducible refine w_dcompT ?_
      | with_reducible refine w_onone ?_
      | with_reducible refine w_osome ?_
      | with_reducible refine w_slice ?_
      | with_reducible refine w_sliceA ?_
      | with_reducible refine w_idx ?_
      | with_reducible refine w_rg1 ?_
      | with_reducible refine w_eqD (by with_unfolding_all rfl) ?_
      | with_reducible refine w_movD (by with_unfolding_all rfl) (by (try simp only [List.length_cons, List.length_nil, List.length_set]); with_unfolding_all decide) ?_
      | with_reducible refine w_rg2 ?_
      | with_reducible refine w_isi ?_
      | with_reducible refine w_isi2 ?_
      | with_reducible refine w_typ ?_
      | with_reducible refine w_nnew ?_
      | with_reducible refine w_nvar (by with_unfolding_all rfl) ?_
      | with_reducible refine w_nvarO (by with_unfolding_all rfl) (by decide) ?_ ?_
      | with_reducible refine w_spoil ?_
      | with_reducible refine w_uvar (by with_unfolding_all rfl) ?_
      | with_reducible refine w_uvarN (by with_unfolding_all rfl) ?_
      | with_reducible refine w_uvarO (by with_unfolding_all rfl) ?_
      | with_reducible refine w_ucons ?_
      | with_reducible refine w_ulst ?_
      | with_reducible refine w_utup ?_
      | with_reducible refine w_auend ?_
      | with_reducible refine w_some ?_
      | with_reducible refine thenQ_nx ?_
      | with_reducible refine thenQ_rt ?_
      | with_reducible refine thenQ_rf ?_
      | with_reducible refine thenQ_rd ?_
      | with_reducible refine w_geq (by with_unfolding_all rfl) (by with_unfolding_all rfl) ?_
      | with_reducible refine w_gne (by with_unfolding_all rfl) (by with_unfolding_all rfl) ?_
      | refine O1.of (x := gAdd _ _) rfl ?_
      | refine w_ii (by with_unfolding_all rfl) ?_
      | refine O1.of (x := gLt _ _) rfl ?_
      | refine O1.of (x := gLe _ _) rfl ?_
      | refine O1.of (x := gInt _) rfl ?_
      | with_reducible refine w_lenL ?_
      | with_reducible refine w_lenT ?_
      | refine O1.of (x := gMax2 _) rfl ?_
      | refine O1.of (x := gMin2 _) rfl ?_
      | refine O1.of (x := gAbs _) rfl ?_
      | refine O1.of (x := gIs _ _) rfl ?_
      | refine O1.of (x := gIsNot _ _) rfl ?_
      | refine O1.of (x := gIsA _ _) rfl ?_
      | refine O1.of (x := gIsNotA _ _) rfl ?_
      | refine O1.of (x := gTupOf _) rfl ?_
      | refine O1.of (x := gListOf _) rfl ?_
      | refine O1.of (x := truD _) rfl ?_
      | refine O1.of (x := itD _) rfl ?_
      | refine O1.of (x := gIx _ _) rfl ?_
      | with_reducible refine x_bool ?_
      | with_reducible refine x_ift ?_
      | with_reducible refine x_iff ?_
      | with_reducible refine x_tt ?_
      | with_reducible refine x_ff ?_
      | with_reducible refine x_int ?_
      | with_reducible refine x_rng1 ?_
      | with_reducible refine x_rng2 ?_
      | with_reducible refine x_two ?_
      | with_reducible refine x_get (by with_unfolding_all rfl) (by with_unfolding_all rfl) ?_
      | with_reducible refine x_put (by with_unfolding_all rfl) (by with_unfolding_all rfl) ?_
      | with_reducible refine x_app (by with_unfolding_all rfl) ?_
      | with_reducible refine x_isow (by with_unfolding_all rfl) ?_
      | with_reducible refine x_isowO (by with_unfolding_all rfl) ?_
      | with_reducible refine x_isdc (by with_unfolding_all rfl) ?_
      | with_reducible refine x_lt (by (try simp only [List.length_cons, List.length_nil, List.length_set]); with_unfolding_all decide) ?_
      | with_reducible refine x_hand (by with_unfolding_all rfl) (by with_unfolding_all rfl) (by with_unfolding_all rfl) ?_
      | with_reducible refine x_handB (by with_unfolding_all rfl) (by with_unfolding_all rfl) ?_
      | with_reducible refine x_size (sz_of (by (try simp only [List.length_cons, List.length_nil, List.length_set]); with_unfolding_all decide)) ?_
      | with_reducible refine x_len (by with_unfolding_all rfl) ?_
      | with_reducible refine x_t (by with_unfolding_all decide +kernel) ?_
      | with_reducible refine x_f (by with_unfolding_all decide +kernel) ?_)
    exact p) : Q := h p
/-- .. up to the next if that has something behind it -/
theorem sti_ {P Q : Prop} (p : P) (h : P → Q := by
    intro p
    repeat ((fail_if_success (with_reducible refine seq_if ?_)); (first
      | with_reducible refine w_op ?_
      | with_reducible refine w_var (by with_unfolding_all rfl) ?_
      | with_reducible refine w_varN (by with_unfolding_all rfl) ?_
      | with_reducible refine w_varO (by with_unfolding_all rfl) (by decide) ?_
      | with_reducible refine w_c ?_
      | with_reducible refine w_seq ?_
      | with_reducible refine w_if ?_
      | with_reducible refine w_set ?_
      | with_reducible refine w_bool ?_
      | with_reducible refine w_tru ?_
      | with_reducible refine w_not ?_
      | with_reducible refine w_and ?_
      | with_reducible refine w_or ?_
      | with_reducible refine w_yes ?_
      | with_reducible refine w_eand ?_
      | with_reducible refine w_eor ?_
      | with_reducible refine w_enot ?_
      | with_reducible refine w_eneg ?_
      | with_reducible refine w_eif ?_
      | with_reducible refine w_chain ?_
      | with_reducible refine w_anil ?_
      | with_reducible refine w_acons ?_
      | with_reducible refine w_tup ?_
      | with_reducible refine w_elst ?_
      | with_reducible refine w_llst ?_
      | with_reducible refine w_call ?_
      | with_reducible refine w_lcall ?_
      | with_reducible refine w_new ?_
      | with_reducible refine w_nil ?_
      | with_reducible refine w_drop ?_
      | with_reducible refine w_ret ?_
      | with_reducible refine w_retN ?_
      | with_reducible refine w_retF ?_
      | with_reducible refine w_retO (by with_unfolding_all rfl) (by decide) ?_
      | with_reducible refine w_setN ?_
      | with_reducible refine w_own ?_
      | with_reducible refine w_ownD ?_
      | with_reducible refine w_retD (by with_unfolding_all rfl) (by decide) ?_
      | with_reducible refine w_retDF ?_
      | with_reducible refine w_listD (by with_unfolding_all rfl) ?_
      | with_reducible refine w_asg ?_
      | with_reducible refine w_asg2 ?_
      | with_reducible refine w_asg3 ?_
      | with_reducible refine w_rev ?_
      | with_reducible refine w_rep ?_
      | with_reducible refine w_sortSet ?_
      | with_reducible refine w_sortSetT ?_
      | with_reducible refine w_sortAt ?_
      | with_reducible refine w_sortDay ?_
      | with_reducible refine w_clr (by with_unfolding_all rfl) ?_
      | with_reducible refine w_ext (by with_unfolding_all rfl) ?_
      | with_reducible refine w_inC ?_
      | with_reducible refine w_gnm ?_
      | with_reducible refine w_gtp (by with_unfolding_all rfl) ?_
      | with_reducible refine w_gsnil ?_
      | with_reducible refine w_gscons ?_
      | with_reducible refine w_app (by with_unfolding_all rfl) ?_
      | with_reducible refine w_put ?_
      | with_reducible refine w_get (by with_unfolding_all rfl) ?_
      | with_reducible refine w_getV (by with_unfolding_all rfl) ?_
      | with_reducible refine w_lenO (by with_unfolding_all rfl) ?_
      | with_reducible refine w_newD (by (try simp only [List.length_cons, List.length_nil, List.length_set]); with_unfolding_all decide) ?_
      | with_reducible refine w_putD ?_
      | with_reducible refine w_getD (by with_unfolding_all rfl) ?_
      | with_reducible refine w_getDf (by with_unfolding_all rfl) ?_
      | with_reducible refine w_inD ?_
      | with_reducible refine w_par2 ?_
      | with_reducible refine w_keysD (by with_unfolding_all rfl) ?_
      | with_reducible refine w_keysT (by with_unfolding_all rfl) ?_
      | with_reducible refine w_lockD (by with_unfolding_all rfl) ?_
      | with_reducible refine w_mnil ?_
      | with_reducible refine w_mcons ?_
      | with_reducible refine w_mown (by with_unfolding_all rfl) ?_
      | with_reducible refine w_mlend (by with_unfolding_all rfl) ?_
      | with_reducible refine w_perm ?_
      | with_reducible refine w_callF ?_
      | with_reducible refine w_lcallF ?_
      | with_reducible refine w_dcallF ?_
      | with_reducible refine w_callB ?_
      | with_reducible refine w_callU ?_
      | with_reducible refine w_items ?_
      | with_reducible refine w_range1 ?_
      | with_reducible refine w_range2 ?_
      | with_reducible refine w_zip ?_
      | with_reducible refine w_for ?_
      | with_reducible refine w_comp ?_
      | with_reducible refine w_dcomp ?_
      | with_reducible refine w_dcompT ?_
      | with_reducible refine w_onone ?_
      | with_reducible refine w_osome ?_
      | with_reducible refine w_slice ?_
      | with_reducible refine w_sliceA ?_
      | with_reducible refine w_idx ?_
      | with_reducible refine w_rg1 ?_
      | with_reducible refine w_eqD (by with_unfolding_all rfl) ?_
      | with_reducible refine w_movD (by with_unfolding_all rfl) (by (try simp only [List.length_cons, List.length_nil, List.length_set]); with_unfolding_all decide) ?_
      | with_reducible refine w_rg2 ?_
      | with_reducible refine w_isi ?_
      | with_reducible refine w_isi2 ?_
      | with_reducible refine w_typ ?_
      | with_reducible refine w_nnew ?_
      | with_reducible refine w_nvar (by with_unfolding_all rfl) ?_
      | with_reducible refine w_nvarO (by with_unfolding_all rfl) (by decide) ?_ ?_
      | with_reducible refine w_spoil ?_
      | with_reducible refine w_uvar (by with_unfolding_all rfl) ?_
      | with_reducible refine w_uvarN (by with_unfolding_all rfl) ?_
      | with_reducible refine w_uvarO (by with_unfolding_all rfl) ?_
      | with_reducible refine w_ucons ?_
      | with_reducible refine w_ulst ?_
      | with_reducible refine w_utup ?_
      | with_reducible refine w_auend ?_
      | with_reducible refine w_some ?_
      | with_reducible refine thenQ_nx ?_
      | with_reducible refine thenQ_rt ?_
      | with_reducible refine thenQ_rf ?_
      | with_reducible refine thenQ_rd ?_
      | with_reducible refine w_geq (by with_unfolding_all rfl) (by with_unfolding_all rfl) ?_
      | with_reducible refine w_gne (by with_unfolding_all rfl) (by with_unfolding_all rfl) ?_
      | refine O1.of (x := gAdd _ _) rfl ?_
      | refine w_ii (by with_unfolding_all rfl) ?_
      | refine O1.of (x := gLt _ _) rfl ?_
      | refine O1.of (x := gLe _ _) rfl ?_
      | refine O1.of (x := gInt _) rfl ?_
      | with_reducible refine w_lenL ?_
      | with_reducible refine w_lenT ?_
      | refine O1.of (x := gMax2 _) rfl ?_
      | refine O1.of (x := gMin2 _) rfl ?_
      | refine O1.of (x := gAbs _) rfl ?_
      | refine O1.of (x := gIs _ _) rfl ?_
      | refine O1.of (x := gIsNot _ _) rfl ?_
      | refine O1.of (x := gIsA _ _) rfl ?_
      | refine O1.of (x := gIsNotA _ _) rfl ?_
      | refine O1.of (x := gTupOf _) rfl ?_
      | refine O1.of (x := gListOf _) rfl ?_
      | refine O1.of (x := truD _) rfl ?_
      | refine O1.of (x := itD _) rfl ?_
      | refine O1.of (x := gIx _ _) rfl ?_
      | with_reducible refine x_bool ?_
      | with_reducible refine x_ift ?_
      | with_reducible refine x_iff ?_
      | with_reducible refine x_tt ?_
      | with_reducible refine x_ff ?_
      | with_reducible refine x_int ?_
      | with_reducible refine x_rng1 ?_
      | with_reducible refine x_rng2 ?_
      | with_reducible refine x_two ?_
      | with_reducible refine x_get (by with_unfolding_all rfl) (by with_unfolding_all rfl) ?_
      | with_reducible refine x_put (by with_unfolding_all rfl) (by with_unfolding_all rfl) ?_
      | with_reducible refine x_app (by with_unfolding_all rfl) ?_
      | with_reducible refine x_isow (by with_unfolding_all rfl) ?_
      | with_reducible refine x_isowO (by with_unfolding_all rfl) ?_
      | with_reducible refine x_isdc (by with_unfolding_all rfl) ?_
      | with_reducible refine x_lt (by (try simp only [List.length_cons, List.length_nil, List.length_set]); with_unfolding_all decide) ?_
      | with_reducible refine x_hand (by with_unfolding_all rfl) (by with_unfolding_all rfl) (by with_unfolding_all rfl) ?_
      | with_reducible refine x_handB (by with_unfolding_all rfl) (by with_unfolding_all rfl) ?_
      | with_reducible refine x_size (sz_of (by (try simp only [List.length_cons, List.length_nil, List.length_set]); with_unfolding_all decide)) ?_
      | with_reducible refine x_len (by with_unfolding_all rfl) ?_
      | with_reducible refine x_t (by with_unfolding_all decide +kernel) ?_
      | with_reducible refine x_f (by with_unfolding_all decide +kernel) ?_))
    exact p) : Q := h p
section
variable {Pg : Program} {w : World} {K : PySem.W.Frag} {mg : Str → Option Value} {base : Heap}
/-- where a def that calls itself begins: a promise of nothing -/
theorem def_never {x : String} {st : Stmt} {N ps : List Str} {k : Nat} (P : Pl) (F : Nmd K mg x st ps) (S : FnScope N ps (defScope st)) : Def Pg w K mg base x (k + 1) ps (spV P ps.length fun _ => none) :=
  (def_V (P := P) (f := sNever) F S fun _ _ _ _ _ _ _ _ => PSs.weak pss_never fun Dn σ H h => by
    obtain ⟨Bf, ow, en, k, o, hf, q⟩ := h
    cases hf).ofV fun as r _ e => (nomatch e)
end
end VL

namespace VL
open PySem PySem.Spec
open PyProof.Rows L2
/-! ### what the top has written; the law's own head -/
section
variable {K : PySem.W.Frag} {mg : Str → Option Value}
theorem nmd_mk {h : Heap} {x : String} {st : Stmt} {ps : List Str} {f : Addr} {oc : Value} {od an : Option Addr} {osl : Array (Option Value)} {kV doc pm cdv ct : Value} (X : K.In h) (G : h.Ns mainGlobals mg)
    (a : PySem.W.nsIn K mainGlobals x = some (some (.ref f))) (l : K.lookup f = some ⟨oc, od, .func (PySem.W.fnOf x x (defArgs st) (defBody st) (defScope st) .none kV doc pm an cdv ct), osl⟩) (c : PySem.W.codeIn K cdv x = true) (k : PySem.W.keepIn K (.ref f) = true)
    (b : ∀ (kV doc pm : Value) (an : Option Addr) (cdv ct : Value) (us : List Value), us.length = ps.length → bindArgs (PySem.W.fnOf x x (defArgs st) (defBody st) (defScope st) .none kV doc pm an cdv ct) ⟨us, []⟩ = pure (ps.zip us)) : Nmd K mg x st ps :=
  ⟨f, _, PySem.W.mg_of X G a, fun_mk l c k, (fun_mk l c k).binds b⟩
theorem cst_mk {h : Heap} {x : String} {c : Addr} {its : Array Value} {n : Nat} {od : Option Addr} {osl : Array (Option Value)} {ws : List Str} (X : K.In h) (G : h.Ns mainGlobals mg) (a : PySem.W.nsIn K mainGlobals x = some (some (.ref c)))
    (l : K.lookup c = some ⟨.type "tuple", od, .seq its n, osl⟩) (s : its.size ≤ sizeLine) (v : Vals (ws.map V.str) its.toList) : Cst K mg x ws :=
  ⟨c, PySem.W.mg_of X G a, fun H => .inr ⟨_, its, n, l, rfl, rfl, s, v⟩⟩
theorem vals_strs : ∀ {ws : List Str} {us : List Value}, us.map (fun u => match u with | .str x _ => some x | _ => none) = ws.map some → Vals (ws.map V.str) us
  | [], [], _ => .nil
  | w :: ws, u :: us, h => by
    rw [List.map_cons, List.map_cons] at h
    injection h with h1 h2
    refine .cons ?_ (vals_strs h2)
    split at h1 <;> first | cases h1 | skip
    exact ⟨_, rfl⟩
  | [], _ :: _, h => by cases h
  | _ :: _, [], h => by cases h
def isLs (o : Obj) : Bool := match o.cls with
  | .type t => t == "list"
  | _ => false
def noLs (K : PySem.W.Frag) : Bool := K.all fun p => !isLs p.2
theorem lookup_mem {α β : Type} [BEq α] [LawfulBEq α] : ∀ {l : List (α × β)} {a : α} {b : β}, l.lookup a = some b → (a, b) ∈ l
  | [], _, _, h => by simp at h
  | (x, y) :: r, a, b, h => by
    rw [List.lookup_cons] at h
    cases e : a == x with
    | true =>
      rw [e] at h
      cases h
      rw [LawfulBEq.eq_of_beq e]
      exact List.mem_cons_self
    | false =>
      rw [e] at h
      exact List.mem_cons_of_mem _ (lookup_mem h)
theorem noLs_sq (h : noLs K = true) {H : Hp} {a : Addr} {xs : List V} (r : SqL K H a xs) : Rd H a (.lst xs) := by
  rcases r with r | ⟨o, its, n, h1, h2, _⟩
  · exact r
  · have := List.all_eq_true.mp h _ (lookup_mem h1)
    unfold isLs at this
    rw [h2] at this
    exact absurd this (by decide)
theorem law_sp {F : FF} (hF : ∀ ns : List Int, ns.length ≤ 63 → O2 (F [.va (.list (ns.map .int))]) fun r _ => r = .bool true) {H : Hp} {a : Addr} {ns : List Int} (hl : ns.length ≤ 63) (r : Rd H a (.lst (ns.map V.int))) {E : XK} {tb : List (Addr × Str)} (ht : LamX.Tabs tb H) :
    spV ⟨[], tb⟩ 1 F [.ref a] H (fun v _ => v = .bl true) E := by
  obtain ⟨d, as', h1, rfl⟩ := hF ns hl
  refine ⟨⟨fun _ => False, fun _ => False⟩, fun _ => none, [.va (.list (ns.map .int))], rfl, ?_, fun i a e => (nomatch e), fun i d e => ?_, .bool true, as', h1, fun v H' _ p => ?_⟩
  · refine ⟨rfl, fun i d e => ?_, fun i d e => ?_, fun i s e f => ?_, fun i a e => (nomatch e), fun i j a e _ => (nomatch e), fun b z => z.elim, fun b z => z.elim, fun i a e => (nomatch e), ht⟩
    · match i, e with
      | 0, e =>
        cases e
        exact ⟨.ref a, rfl, .lst (fun z => z.elim (fun z => z) fun ⟨_, z⟩ => (nomatch z)) r (RpL.ofInts ns)⟩
      | i + 1, e => simp at e
    · match i, e with
      | 0, e => cases e
      | i + 1, e => simp at e
    · match i, e with
      | 0, e => cases e; cases f
      | i + 1, e => simp at e
  · match i, e with
    | 0, e => cases e
    | i + 1, e => simp at e
  · cases p
    rfl
end
theorem law_fn {P : Program} {w : World} {K : PySem.W.Frag} {mg : Str → Option Value} {fa : Addr} {st : Stmt} {k : Nat} {sp : Sp} (N : Nmd K mg "law" st ["script"]) (hmg : mg "law" = some (.ref fa))
    (hb : ∀ (kV doc pm : Value) (an : Option Addr) (cdv ct u : Value), bindArgs (PySem.W.fnOf "law" "law" (defArgs st) (defBody st) (defScope st) .none kV doc pm an cdv ct) ⟨[u], []⟩ = pure [(Str.ofString "script", u)]) (D : ∀ base : Heap, Def P w K mg base "law" k ["script"] sp) :
    ∃ fd : FuncData, (∀ (s : Shared) (u : Value), BindsTo s fd ⟨[u], []⟩ [("script", u)]) ∧ ∀ base : Heap, FnOk P w K mg base CX0 k fa fd ["script"] sp := by
  obtain ⟨f, fd, h1, h2, h3⟩ := N.ex
  obtain ⟨oc, od, kV, doc, pm, an, cdv, ct, osl, rfl, lk, hcd⟩ := h2.ex
  rw [hmg] at h1
  cases h1
  refine ⟨_, fun s u => .of_eq (hb kV doc pm an cdv ct u), fun base => ?_⟩
  obtain ⟨f', fd', g1, g2, g3, g4, oc', od', osl', g5⟩ := (D base).ex
  rw [hmg] at g1
  cases g1
  rw [lk] at g5
  cases g5
  exact g4
theorem law_walk {l : PySem.W.OpenLaw} {q : Program} {loose : List Str} {XP : (Str → Option Value) → Heap → Prop} {YP : World → Heap → Prop} {d : DefRec} {K : Params → PySem.W.Frag} {F : FF} {k : Nat} (hF : ∀ ns : List Int, ns.length ≤ 63 → O2 (F [.va (.list (ns.map .int))]) fun r _ => r = .bool true)
    (hn : l.most = some 63) (hdf : d.params.defaults = []) (hr : Room k callerA) (hY : ∀ (w : World) (h : Heap), YP w h → (K w.params).In h) (hno : ∀ w : World, noLs (K w.params) = true)
    (G : ∀ (w : World) (mg : Str → Option Value) (fa : Addr) (h : Heap), (K w.params).In h → h.Ns mainGlobals mg → mg d.name = some (.ref fa) →
      ∃ fd : FuncData, (∀ (s : Shared) (u : Value), BindsTo s fd ⟨[u], []⟩ [("script", u)]) ∧ ∀ base : Heap, FnOk l.prog w (K w.params) mg base CX0 k fa fd ["script"] (spV ⟨[], []⟩ 1 F)) :
    PySem.W.WalkO q loose XP YP l.row.toRowW d [] (fun f vs => PySem.call f vs) :=
  L2.walk_of (n := 63) (k := k) (x := "script") (CX := fun _ => CX0) (sp := fun _ => spV ⟨[], []⟩ 1 F) hn (by decide) hdf hr hY (fun w mg fa h X N e => let ⟨fd, h1, h2⟩ := G w mg fa h X N e; ⟨fd, h1, fun base _ _ => h2 base⟩)
    (fun w H a ns hl _ hS => law_sp hF hl (noLs_sq (hno w) hS) (fun _ h => nomatch h)) fun _ _ _ _ _ z => z
end VL

namespace VL
open PySem PySem.Spec
open PyProof.Rows L2
/-! ### the head of a law whose defs make lambdas: what the top has written, the empty tables left out -/
section
variable {K : PySem.W.Frag} {mg : Str → Option Value}
/-- a def that makes lambdas: its code object c, whose table stands at T -/
structure LamF (K : PySem.W.Frag) (mg : Str → Option Value) (x : String) (st : Stmt) (ps : List Str) (c T : Addr) : Prop where
  fn : ∃ (f : Addr) (oc : Value) (od an : Option Addr) (kV doc pm ct : Value) (osl : Array (Option Value)), mg x = some (.ref f) ∧ K.lookup f = some ⟨oc, od, .func (PySem.W.fnOf x x (defArgs st) (defBody st) (defScope st) .none kV doc pm an (.ref c) ct), osl⟩ ∧ PySem.W.codeIn K (.ref c) x = true ∧ PySem.W.keepIn K (.ref f) = true ∧
    L2.Binds K (PySem.W.fnOf x x (defArgs st) (defBody st) (defScope st) .none kV doc pm an (.ref c) ct) ps []
  code : ∀ h : Heap, K.In h → PySem.W.CodeHd h c T
  none : K.lookup T = none
theorem lamF_mk {cc : Value} {od2 : Option Addr} {vs : Array Value} {osl2 : Array (Option Value)} {h : Heap} {x : String} {st : Stmt} {ps : List Str} {f c T : Addr} {oc : Value} {od an : Option Addr} {osl : Array (Option Value)} {kV doc pm ct : Value} (X : K.In h) (G : h.Ns mainGlobals mg)
    (a : PySem.W.nsIn K mainGlobals x = some (some (.ref f))) (l : K.lookup f = some ⟨oc, od, .func (PySem.W.fnOf x x (defArgs st) (defBody st) (defScope st) .none kV doc pm an (.ref c) ct), osl⟩) (cd : PySem.W.codeIn K (.ref c) x = true) (k : PySem.W.keepIn K (.ref f) = true)
    (b : ∀ (kV doc pm : Value) (an : Option Addr) (cdv ct : Value) (us : List Value), us.length = ps.length → bindArgs (PySem.W.fnOf x x (defArgs st) (defBody st) (defScope st) .none kV doc pm an cdv ct) ⟨us, []⟩ = pure (ps.zip us))
    (lc : K.lookup c = some ⟨cc, od2, .fields vs, osl2⟩) (h11 : vs[11]? = some (.ref T)) (hd : PySem.W.codeHdIn K c T = true) (n : K.lookup T = none) : LamF K mg x st ps c T :=
  ⟨⟨f, oc, od, an, kV, doc, pm, ct, osl, PySem.W.mg_of X G a, l, cd, k, .all (b kV doc pm an (.ref c) ct)⟩, fun g X' => PySem.W.codeHd_of_K X' hd, n⟩
theorem LamF.nmd {x : String} {st : Stmt} {ps : List Str} {c T : Addr} (F : LamF K mg x st ps c T) {base : Heap} {tb : List (Addr × Str)} (B : LamX.TabB base mg c T) (m : (T, (Str.ofString x ++ ".<locals>.") ++ "<lambda>") ∈ tb)
    (u : ∀ p ∈ tb, p.1 = T → p.2 = (Str.ofString x ++ ".<locals>.") ++ "<lambda>") : NmdT K mg base tb x st ps := by
  obtain ⟨f, oc, od, an, kV, doc, pm, ct, osl, h1, l, cd, k, b⟩ := F.fn
  exact ⟨f, c, T, oc, od, an, kV, doc, pm, ct, osl, h1, l, cd, k, b, B, m, u⟩
/-- what the head asks of the law's own promise -/
def LawT (P : Program) (w : World) (K : PySem.W.Frag) (h : Heap) (mg : Str → Option Value) (fa : Addr) (k : Nat) (F : FF) : Prop := ∃ (fd : FuncData) (cs : List (Addr × Addr)) (tb : List (Addr × Str)), (∀ p ∈ cs, h.get? p.2 = some (PySem.W.tabObj #[])) ∧ (∀ p ∈ cs, K.lookup p.2 = none) ∧ (∀ p ∈ cs, ∀ h : Heap, K.In h → PySem.W.CodeHd h p.1 p.2) ∧
  (∀ p ∈ tb, ∃ q ∈ cs, p.1 = q.2) ∧ (∀ (s : Shared) (u : Value), BindsTo s fd ⟨[u], []⟩ [("script", u)]) ∧ ∀ base : Heap, (∀ p ∈ cs, LamX.TabB base mg p.1 p.2) → FnOk P w K mg base CX0 k fa fd ["script"] (spV ⟨[], tb⟩ 1 F)
theorem fd_of {P : Program} {w : World} {mg : Str → Option Value} {fa : Addr} {st : Stmt} (N : Nmd K mg "law" st ["script"]) (hmg : mg "law" = some (.ref fa))
    (hb : ∀ (kV doc pm : Value) (an : Option Addr) (cdv ct u : Value), bindArgs (PySem.W.fnOf "law" "law" (defArgs st) (defBody st) (defScope st) .none kV doc pm an cdv ct) ⟨[u], []⟩ = pure [(Str.ofString "script", u)]) :
    ∃ fd : FuncData, (∀ (s : Shared) (u : Value), BindsTo s fd ⟨[u], []⟩ [("script", u)]) ∧ ∀ (base : Heap) (k : Nat) (sp : Sp), Def P w K mg base "law" k ["script"] sp → FnOk P w K mg base CX0 k fa fd ["script"] sp := by
  obtain ⟨f, fd, h1, h2, h3⟩ := N.ex
  obtain ⟨oc, od, kV, doc, pm, an, cdv, ct, osl, rfl, lk, hcd⟩ := h2.ex
  rw [hmg] at h1
  cases h1
  refine ⟨_, fun s u => .of_eq (hb kV doc pm an cdv ct u), fun base k sp D => ?_⟩
  obtain ⟨f', fd', g1, g2, g3, g4, oc', od', osl', g5⟩ := D.ex
  rw [hmg] at g1
  cases g1
  rw [lk] at g5
  cases g5
  exact g4
section
variable {P : Program} {w : World} {h : Heap} {fa : Addr} {st : Stmt} {k : Nat} {F : FF}
theorem law_at1 {x1 : String} {st1 : Stmt} {ps1 : List Str} {c1 T1 : Addr} (Z1 : LamF K mg x1 st1 ps1 c1 T1) (e1 : h.get? T1 = some (PySem.W.tabObj #[])) (N : Nmd K mg "law" st ["script"]) (hmg : mg "law" = some (.ref fa))
    (hb : ∀ (kV doc pm : Value) (an : Option Addr) (cdv ct u : Value), bindArgs (PySem.W.fnOf "law" "law" (defArgs st) (defBody st) (defScope st) .none kV doc pm an cdv ct) ⟨[u], []⟩ = pure [(Str.ofString "script", u)])
    (D : ∀ base : Heap, NmdT K mg base [(T1, (Str.ofString x1 ++ ".<locals>.") ++ "<lambda>")] x1 st1 ps1 → Def P w K mg base "law" k ["script"] (spV ⟨[], [(T1, (Str.ofString x1 ++ ".<locals>.") ++ "<lambda>")]⟩ 1 F)) : LawT P w K h mg fa k F := by
  obtain ⟨fd, h1, h2⟩ := fd_of (P := P) (w := w) N hmg hb
  refine ⟨fd, [(c1, T1)], _, fun p hp => ?_, fun p hp => ?_, fun p hp => ?_, fun p hp => ⟨_, List.mem_singleton_self _, ?_⟩, h1, fun base hB => h2 base _ _ (D base (Z1.nmd (hB _ (List.mem_singleton_self _)) (List.mem_singleton_self _) fun p hp _ => ?_))⟩
  · rw [List.mem_singleton.mp hp]
    exact e1
  · rw [List.mem_singleton.mp hp]
    exact Z1.none
  · rw [List.mem_singleton.mp hp]
    exact Z1.code
  · rw [List.mem_singleton.mp hp]
  · rw [List.mem_singleton.mp hp]
theorem law_at2 {x1 x2 : String} {st1 st2 : Stmt} {ps1 ps2 : List Str} {c1 T1 c2 T2 : Addr} (Z1 : LamF K mg x1 st1 ps1 c1 T1) (e1 : h.get? T1 = some (PySem.W.tabObj #[])) (Z2 : LamF K mg x2 st2 ps2 c2 T2) (e2 : h.get? T2 = some (PySem.W.tabObj #[])) (ne : T1 ≠ T2) (N : Nmd K mg "law" st ["script"]) (hmg : mg "law" = some (.ref fa))
    (hb : ∀ (kV doc pm : Value) (an : Option Addr) (cdv ct u : Value), bindArgs (PySem.W.fnOf "law" "law" (defArgs st) (defBody st) (defScope st) .none kV doc pm an cdv ct) ⟨[u], []⟩ = pure [(Str.ofString "script", u)])
    (D : ∀ base : Heap, NmdT K mg base [(T1, (Str.ofString x1 ++ ".<locals>.") ++ "<lambda>"), (T2, (Str.ofString x2 ++ ".<locals>.") ++ "<lambda>")] x1 st1 ps1 → NmdT K mg base [(T1, (Str.ofString x1 ++ ".<locals>.") ++ "<lambda>"), (T2, (Str.ofString x2 ++ ".<locals>.") ++ "<lambda>")] x2 st2 ps2 →
      Def P w K mg base "law" k ["script"] (spV ⟨[], [(T1, (Str.ofString x1 ++ ".<locals>.") ++ "<lambda>"), (T2, (Str.ofString x2 ++ ".<locals>.") ++ "<lambda>")]⟩ 1 F)) : LawT P w K h mg fa k F := by
  obtain ⟨fd, h1, h2⟩ := fd_of (P := P) (w := w) N hmg hb
  have two : ∀ {p : Addr × Str}, p ∈ [(T1, (Str.ofString x1 ++ ".<locals>.") ++ "<lambda>"), (T2, (Str.ofString x2 ++ ".<locals>.") ++ "<lambda>")] → p = (T1, (Str.ofString x1 ++ ".<locals>.") ++ "<lambda>") ∨ p = (T2, (Str.ofString x2 ++ ".<locals>.") ++ "<lambda>") := fun {p} hp => by simpa using hp
  have m1 : (c1, T1) ∈ [(c1, T1), (c2, T2)] := by simp
  have m2 : (c2, T2) ∈ [(c1, T1), (c2, T2)] := by simp
  refine ⟨fd, [(c1, T1), (c2, T2)], _, fun p hp => ?_, fun p hp => ?_, fun p hp => ?_, fun p hp => ?_, h1, fun base hB => h2 base _ _ (D base (Z1.nmd (hB _ m1) (by simp) fun p hp e => ?_) (Z2.nmd (hB _ m2) (by simp) fun p hp e => ?_))⟩
  · rcases List.mem_cons.mp hp with rfl | hp
    · exact e1
    · rw [List.mem_singleton.mp hp]
      exact e2
  · rcases List.mem_cons.mp hp with rfl | hp
    · exact Z1.none
    · rw [List.mem_singleton.mp hp]
      exact Z2.none
  · rcases List.mem_cons.mp hp with rfl | hp
    · exact Z1.code
    · rw [List.mem_singleton.mp hp]
      exact Z2.code
  · rcases two hp with rfl | rfl
    · exact ⟨_, m1, rfl⟩
    · exact ⟨_, m2, rfl⟩
  · rcases two hp with rfl | rfl
    · rfl
    · exact absurd e.symm ne
  · rcases two hp with rfl | rfl
    · exact absurd e ne
    · rfl
end
end
theorem law_walkT {l : PySem.W.OpenLaw} {q : Program} {loose : List Str} {XP : (Str → Option Value) → Heap → Prop} {YP : World → Heap → Prop} {d : DefRec} {K : Params → PySem.W.Frag} {F : FF} {k : Nat} (hF : ∀ ns : List Int, ns.length ≤ 63 → O2 (F [.va (.list (ns.map .int))]) fun r _ => r = .bool true)
    (hn : l.most = some 63) (hdf : d.params.defaults = []) (hr : Room k callerA) (hY : ∀ (w : World) (h : Heap), YP w h → (K w.params).In h) (hno : ∀ w : World, noLs (K w.params) = true)
    (G : ∀ (w : World) (mg : Str → Option Value) (fa : Addr) (h : Heap), YP w h → (K w.params).In h → h.Ns mainGlobals mg → mg d.name = some (.ref fa) → LawT l.prog w (K w.params) h mg fa k F) :
    PySem.W.WalkO q loose XP YP l.row.toRowW d [] (fun f vs => PySem.call f vs) :=
  LamX.walk_ofTs (n := 63) (k := k) (x := "script") (K := K) (CX := fun _ => CX0) hn (by decide) hdf hr hY
    (fun w mg fa h Y X N e => by
      obtain ⟨fd, cs, tb, h0, h1, h2, h3, h4, h5⟩ := G w mg fa h Y X N e
      refine ⟨fd, cs, spV ⟨[], tb⟩ 1 F, h0, h1, fun p hp => h2 p hp h X, h4, fun H a ns hl _ hH hS => ?_, fun base _ _ hB => h5 base hB⟩
      exact law_sp hF hl (noLs_sq (hno w) hS) fun p hp => by
        obtain ⟨q, hq, e⟩ := h3 p hp
        rw [e]
        exact LamX.TabS.nil (hH q hq)) fun _ _ _ _ _ z => z
end VL

namespace G
open PySem PySem.Spec PyProof.Rows L2 VL
def topS (i : Nat) : Stmt := PySem.Challenge.pw_oldestbills_k10_pairs_that_moved.main.body.getD i (.Pass ⟨0, 0, 0, 0⟩)
abbrev s_is_integer : Stmt := topS 7
abbrev s_is_sum : Stmt := topS 8
abbrev s_has_entry_form : Stmt := topS 9
abbrev s_names_its_bill : Stmt := topS 10
abbrev s_fits_account : Stmt := topS 11
abbrev s_fits_manner : Stmt := topS 12
abbrev s_is_index : Stmt := topS 13
abbrev s_is_bill_index : Stmt := topS 14
abbrev s_sum_of : Stmt := topS 15
abbrev s_check_account : Stmt := topS 16
abbrev s_check_manner : Stmt := topS 17
abbrev s_along : Stmt := topS 19
abbrev s_laid_by : Stmt := topS 21
abbrev s_gone_through : Stmt := topS 22
abbrev s_partners_of : Stmt := topS 23
abbrev s_ranked : Stmt := topS 24
abbrev s_pair_row : Stmt := topS 25
abbrev s_moved : Stmt := topS 26
abbrev s_moved_rows : Stmt := topS 27
abbrev s__law_filled : Stmt := topS 29
abbrev s__law_pick : Stmt := topS 30
abbrev s__law_is_int : Stmt := topS 31
abbrev s__law_like : Stmt := topS 32
abbrev s__law_frame : Stmt := topS 33
abbrev s__law_slips : Stmt := topS 34
abbrev s__law_named : Stmt := topS 35
abbrev s__law_many : Stmt := topS 36
abbrev s__law_drawn : Stmt := topS 37
abbrev s__law_bare : Stmt := topS 38
abbrev s__law_drawn_way : Stmt := topS 39
abbrev s__law_along : Stmt := topS 40
abbrev s__law_mate : Stmt := topS 41
abbrev s__law_lay : Stmt := topS 42
abbrev s__law_sums_of : Stmt := topS 43
abbrev s__law_beside : Stmt := topS 44
abbrev s__law_due_moves : Stmt := topS 45
abbrev s_law : Stmt := topS 46
/-- what the top has written -/
structure Txt (K : PySem.W.Frag) (mg : Str → Option Value) (base : Heap) (tb : List (Addr × Str)) : Prop where
  z_all : mg "all" = none
  z_bool : mg "bool" = none
  z_int : mg "int" = none
  z_isinstance : mg "isinstance" = none
  z_len : mg "len" = none
  z_list : mg "list" = none
  z_max : mg "max" = none
  z_min : mg "min" = none
  z_range : mg "range" = none
  z_set : mg "set" = none
  z_sorted : mg "sorted" = none
  z_str : mg "str" = none
  z_tuple : mg "tuple" = none
  z_type : mg "type" = none
  z_zip : mg "zip" = none
  c_CHOICES : Cst K mg "CHOICES" [Str.ofString "oldest", Str.ofString "newest", Str.ofString "greatest", Str.ofString "least"]
  c_SEQUENCES : Cst K mg "SEQUENCES" [Str.ofString "days", Str.ofString "entered"]
  d_is_integer : Nmd K mg "is_integer" s_is_integer ["value"]
  d_is_sum : Nmd K mg "is_sum" s_is_sum ["value"]
  d_has_entry_form : Nmd K mg "has_entry_form" s_has_entry_form ["value"]
  d_names_its_bill : Nmd K mg "names_its_bill" s_names_its_bill ["entries", "entry"]
  d_fits_account : Nmd K mg "fits_account" s_fits_account ["value"]
  d_fits_manner : Nmd K mg "fits_manner" s_fits_manner ["value"]
  d_is_index : Nmd K mg "is_index" s_is_index ["entries", "value"]
  d_is_bill_index : Nmd K mg "is_bill_index" s_is_bill_index ["entries", "value"]
  d_sum_of : Nmd K mg "sum_of" s_sum_of ["entry"]
  d_check_account : Nmd K mg "check_account" s_check_account ["account"]
  d_check_manner : Nmd K mg "check_manner" s_check_manner ["manner"]
  d_along : Nmd K mg "along" s_along ["account"]
  d_laid_by : Nmd K mg "laid_by" s_laid_by ["account", "manner"]
  d_gone_through : Nmd K mg "gone_through" s_gone_through ["account", "manner"]
  d_partners_of : Nmd K mg "partners_of" s_partners_of ["account", "index", "others", "left", "choice"]
  d_ranked : NmdT K mg base tb "ranked" s_ranked ["bills", "left", "choice"]
  d_pair_row : Nmd K mg "pair_row" s_pair_row ["account", "index", "other", "much"]
  d_moved : Nmd K mg "moved" s_moved ["account", "other_account", "manner"]
  d_moved_rows : Nmd K mg "moved_rows" s_moved_rows ["account", "other_account", "manner"]
  d__law_filled : Nmd K mg "_law_filled" s__law_filled ["cell"]
  d__law_pick : Nmd K mg "_law_pick" s__law_pick ["jar", "many"]
  d__law_is_int : Nmd K mg "_law_is_int" s__law_is_int ["thing"]
  d__law_like : Nmd K mg "_law_like" s__law_like ["found", "due"]
  d__law_frame : Nmd K mg "_law_frame" s__law_frame ["jar"]
  d__law_slips : Nmd K mg "_law_slips" s__law_slips ["jar", "many", "tops"]
  d__law_named : Nmd K mg "_law_named" s__law_named ["jar", "rows"]
  d__law_many : Nmd K mg "_law_many" s__law_many ["jar", "upto"]
  d__law_drawn : Nmd K mg "_law_drawn" s__law_drawn ["jar", "upto"]
  d__law_bare : Nmd K mg "_law_bare" s__law_bare ["jar", "upto"]
  d__law_drawn_way : Nmd K mg "_law_drawn_way" s__law_drawn_way ["jar"]
  d__law_along : NmdT K mg base tb "_law_along" s__law_along ["acct"]
  d__law_mate : Nmd K mg "_law_mate" s__law_mate ["acct", "along_v", "left", "spot", "rule"]
  d__law_lay : Nmd K mg "_law_lay" s__law_lay ["acct", "way"]
  d__law_sums_of : Nmd K mg "_law_sums_of" s__law_sums_of ["pairs"]
  d__law_beside : Nmd K mg "_law_beside" s__law_beside ["jar", "acct"]
  d__law_due_moves : Nmd K mg "_law_due_moves" s__law_due_moves ["before", "behind"]
  d_law : Nmd K mg "law" s_law ["script"]
  k_moved_manner_other_account_account : Kwd K mg "moved" ["account", "other_account", "manner"] ["manner", "other_account", "account"] [2, 1, 0]
section
variable {Pg : Program} {w : World} {K : PySem.W.Frag} {mg : Str → Option Value} {base : Heap} {tb : List (Addr × Str)}
theorem sc_is_integer : FnScope ["value"] ["value"] (defScope s_is_integer) := ⟨rfl, rfl, rfl, by decide +kernel, rfl, by decide +kernel, by decide +kernel⟩
def f_is_integer : FS := (sRet (eAnd (eIsi "int" (eVar [] 0)) (eNot (eIsi "bool" (eVar [] 0)))))
theorem ok_is_integer (T : Txt K mg base tb)  : Def Pg w K mg base "is_integer" 1 ["value"] (spV ⟨[], tb⟩ 1 (fnV 1 (f_is_integer ))) :=
  def_V (N := ["value"]) T.d_is_integer sc_is_integer fun fa cdv A outer s H E hr =>
    (vb_one (vs_ret (ve_and (ve_isi (by decide) (by rfl) T.z_isinstance (by rfl) T.z_int (by rfl) (ve_var (i := 0) rfl)) (ve_one (ve_not (ve_isi (by decide) (by rfl) T.z_isinstance (by rfl) T.z_bool (by rfl) (ve_var (i := 0) rfl)))))))
def C_is_integer : FF := fnV 1 (f_is_integer )
theorem dd_is_integer (T : Txt K mg base tb) : Def Pg w K mg base "is_integer" 1 ["value"] (spV ⟨[], tb⟩ 1 C_is_integer) := ok_is_integer T 
theorem sc_is_sum : FnScope ["value"] ["value"] (defScope s_is_sum) := ⟨rfl, rfl, rfl, by decide +kernel, rfl, by decide +kernel, by decide +kernel⟩
def f_is_sum : FS := (sRet (eAnd (eIsi "int" (eVar [] 0)) (eAnd (eNot (eIsi "bool" (eVar [] 0))) (eOp gGe (eVar [] 0) (eC (.int 1))))))
theorem ok_is_sum (T : Txt K mg base tb)  : Def Pg w K mg base "is_sum" 1 ["value"] (spV ⟨[], tb⟩ 1 (fnV 1 (f_is_sum ))) :=
  def_V (N := ["value"]) T.d_is_sum sc_is_sum fun fa cdv A outer s H E hr =>
    (vb_one (vs_ret (ve_and (ve_isi (by decide) (by rfl) T.z_isinstance (by rfl) T.z_int (by rfl) (ve_var (i := 0) rfl)) (ve_and (ve_not (ve_isi (by decide) (by rfl) T.z_isinstance (by rfl) T.z_bool (by rfl) (ve_var (i := 0) rfl))) (ve_one (ve_cmp op_ge ov_ge (ve_var (i := 0) rfl) ve_int (nomark _)))))))
def C_is_sum : FF := fnV 1 (f_is_sum )
theorem dd_is_sum (T : Txt K mg base tb) : Def Pg w K mg base "is_sum" 1 ["value"] (spV ⟨[], tb⟩ 1 C_is_sum) := ok_is_sum T 
theorem sc_fits_manner : FnScope ["value"] ["value"] (defScope s_fits_manner) := ⟨rfl, rfl, rfl, by decide +kernel, rfl, by decide +kernel, by decide +kernel⟩
def f_fits_manner : FS := (sSeq (sIf (fOr (fBool (eTyp true "tuple" (eVar [] 0))) (fBool (eOp gNe (eCall gLen (aCons (eVar [] 0) aNil)) (eC (.int 2))))) (sRet (eC (.bool false))) sNil)
    (sRet (eAnd (eInC false [Str.ofString "days", Str.ofString "entered"] (eOp gIx (eVar [] 0) (eC (.int 0)))) (eInC false [Str.ofString "oldest", Str.ofString "newest", Str.ofString "greatest", Str.ofString "least"] (eOp gIx (eVar [] 0) (eC (.int 1)))))))
theorem ok_fits_manner (T : Txt K mg base tb)  : Def Pg w K mg base "fits_manner" 1 ["value"] (spV ⟨[], tb⟩ 1 (fnV 1 (f_fits_manner ))) :=
  def_V (N := ["value"]) T.d_fits_manner sc_fits_manner fun fa cdv A outer s H E hr =>
    (vb_cons (vs_if (vt_bop (vw_or (vt_typNe (by decide) hr.units (by rfl) T.z_type (by rfl) T.z_tuple (by rfl) (ve_var (i := 0) rfl)) (vw_or1 (vt_cmp (op_neD hr.units) ov_ne (ve_callB call_len ca_len (by rfl) T.z_len (by decide +kernel) (va_cons (ve_var (i := 0) rfl) va_nil)) ve_int (nomark _))))) (vb_one (vs_ret ve_bl)) vb_nil)
      (vb_one (vs_ret (ve_and (ve_inC T.c_SEQUENCES (by rfl) (ve_ix ix_seq ov_ix (ve_var (i := 0) rfl) ve_int (fun _ _ => rfl))) (ve_one (ve_inC T.c_CHOICES (by rfl) (ve_ix ix_seq ov_ix (ve_var (i := 0) rfl) ve_int (fun _ _ => rfl))))))))
def C_fits_manner : FF := fnV 1 (f_fits_manner )
theorem dd_fits_manner (T : Txt K mg base tb) : Def Pg w K mg base "fits_manner" 1 ["value"] (spV ⟨[], tb⟩ 1 C_fits_manner) := ok_fits_manner T 
theorem sc_sum_of : FnScope ["entry"] ["entry"] (defScope s_sum_of) := ⟨rfl, rfl, rfl, by decide +kernel, rfl, by decide +kernel, by decide +kernel⟩
def f_sum_of : FS := (sRet (eIf (fBool (eOp gEq (eOp gIx (eVar [] 0) (eC (.int 0))) (eC (.str (Str.ofString "struck"))))) (eC (.int 0)) (eOp gIx (eVar [] 0) (eC (.int 2)))))
theorem ok_sum_of (T : Txt K mg base tb)  : Def Pg w K mg base "sum_of" 1 ["entry"] (spV ⟨[], tb⟩ 1 (fnV 1 (f_sum_of ))) :=
  def_V (N := ["entry"]) T.d_sum_of sc_sum_of fun fa cdv A outer s H E hr =>
    (vb_one (vs_ret (ve_if (vt_cmp (op_eqD hr.units) ov_eq (ve_ix ix_seq ov_ix (ve_var (i := 0) rfl) ve_int (fun _ _ => rfl)) ve_str (nomark _)) ve_int (ve_ix ix_seq ov_ix (ve_var (i := 0) rfl) ve_int (fun _ _ => rfl)))))
def C_sum_of : FF := fnV 1 (f_sum_of )
theorem dd_sum_of (T : Txt K mg base tb) : Def Pg w K mg base "sum_of" 1 ["entry"] (spV ⟨[], tb⟩ 1 C_sum_of) := ok_sum_of T 
theorem sc_along : FnScope ["account", "places", "k", "day", "index"] ["account"] (defScope s_along) := ⟨rfl, rfl, rfl, by decide +kernel, rfl, by decide +kernel, by decide +kernel⟩
def f_along : FS := (sSeq (sSet 1 (eNew (lComp (iRange1 (aCons (eCall gLen (aCons (eVar [] 0) aNil)) aNil)) (gNm 2) (fBool (eOp gNe (eOp gIx (eOp gIx (eVar [] 0) (eVar [] 2)) (eC (.int 0))) (eC (.str (Str.ofString "struck"))))) (eTup (aCons (eOp gIx (eOp gIx (eVar [] 0) (eVar [] 2)) (eC (.int 1))) (aCons (eVar [] 2) aNil))) [2])))
    (sRetF (lComp (iItems (eNew (lCall gSortA (aCons (eVar [] 1) aNil)))) (gTp 2 (gsCons (gNm 3) (gsCons (gNm 4) gsNil))) tYesV (eVar [] 4) [3, 4])))
theorem ok_along (T : Txt K mg base tb)  : Def Pg w K mg base "along" 1 ["account"] (spL ⟨[], tb⟩ 1 (fnL 5 (f_along ))) :=
  def_L (N := ["account", "places", "k", "day", "index"]) T.d_along sc_along fun fa cdv A outer s H E hr =>
    (vb_cons (vs_setLc (i := 1) rfl sc_along.nd rfl rfl (pl_not (by decide)) (sw_true rfl rfl rfl (by decide +kernel)) (vi_range1 (by rfl) T.z_range (va_cons (ve_callB call_len ca_len (by rfl) T.z_len (by decide +kernel) (va_cons (ve_var (i := 0) rfl) va_nil)) va_nil)) (blkOk_by (own := [("k", 2)]) (N := ["account", "places", "k", "day", "index"]) (sc := defScope s_along) (by decide +kernel)) rfl (pl_all (by decide)) (by decide) (fun _ _ _ _ _ => (vg_name (i := 2) sc_along.nd rfl (hP := pl_not (by decide)))) (fun _ _ _ _ _ => (vts_one (vt_cmp (op_neD hr.units) ov_ne (ve_ix ix_seq ov_ix (ve_ix ix_seq ov_ix (ve_var (i := 0) rfl) (ve_var (i := 2) rfl) (fun _ _ => rfl)) ve_int (fun _ _ => rfl)) ve_str (nomark _)))) (fun _ _ _ _ _ => (ve_tup (va_cons (ve_ix ix_seq ov_ix (ve_ix ix_seq ov_ix (ve_var (i := 0) rfl) (ve_var (i := 2) rfl) (fun _ _ => rfl)) ve_int (fun _ _ => rfl)) (va_cons (ve_var (i := 2) rfl) va_nil)))))
      (vb_one (vs_retF (vf_lc rfl sc_along.nd (vi_seq (ve_new (vf_callB (cr_sortA hr.units) ca_sortA (by rfl) T.z_sorted (by decide +kernel) (va_cons (ve_var (i := 1) rfl) va_nil)))) (blkOk_by (own := [("day", 3), ("index", 4)]) (N := ["account", "places", "k", "day", "index"]) (sc := defScope s_along) (by decide +kernel)) rfl (pl_all (by decide)) (by decide) (fun _ _ _ _ _ => (vg_tup rfl (vgs_cons (vg_name (i := 3) sc_along.nd rfl (hP := pl_not (by decide))) (vgs_cons (vg_name (i := 4) sc_along.nd rfl (hP := pl_not (by decide))) vgs_nil)))) (fun _ _ _ _ _ => vts_nil) (fun _ _ _ _ _ => (ve_var (i := 4) rfl))))))
def C_along : FFL := fnL 5 (f_along )
theorem dd_along (T : Txt K mg base tb) : Def Pg w K mg base "along" 1 ["account"] (spL ⟨[], tb⟩ 1 C_along) := ok_along T 
theorem sc_ranked : FnScope ["bills", "left", "choice"] ["bills", "left", "choice"] (defScope s_ranked) := ⟨rfl, rfl, rfl, by decide +kernel, rfl, by decide +kernel, by decide +kernel⟩
def f_ranked : FS := (sSeq (sIf (fBool (eOp gEq (eVar [1] 2) (eC (.str (Str.ofString "greatest"))))) (sRet (eNew (lSortAt 1 true (eVar [1] 0)))) sNil)
    (sSeq (sIf (fBool (eOp gEq (eVar [1] 2) (eC (.str (Str.ofString "least"))))) (sRet (eNew (lSortAt 1 false (eVar [1] 0)))) sNil)
    (sRet (eIf (fBool (eOp gEq (eVar [1] 2) (eC (.str (Str.ofString "oldest"))))) (eVar [1] 0) (eNew (lRev (eVar [1] 0)))))))
theorem ok_ranked (T : Txt K mg base tb)  : Def Pg w K mg base "ranked" 1 ["bills", "left", "choice"] (spV ⟨[1], tb⟩ 3 (fnV 3 (f_ranked ))) :=
  def_VT (P := ⟨[1], tb⟩) (N := ["bills", "left", "choice"]) T.d_ranked sc_ranked fun fa cdv tbl A outer s H E TB hm hu hr =>
    (vb_cons (vs_if (vt_cmp (op_eqD hr.units) ov_eq (ve_var (i := 2) rfl) ve_str (nomark _)) (vb_one (vs_ret (ve_new (vf_sortAtR (i := 1) hr (by rfl) T.z_sorted TB rfl hm hu (lamS1_by (sc := defScope s_ranked) (by decide +kernel)) rfl (fun _ _ _ _ _ _ => rfl) rfl rfl (he := (ve_var (i := 0) rfl)))))) vb_nil)
      (vb_cons (vs_if (vt_cmp (op_eqD hr.units) ov_eq (ve_var (i := 2) rfl) ve_str (nomark _)) (vb_one (vs_ret (ve_new (vf_sortAt (i := 1) hr (by rfl) T.z_sorted TB rfl hm hu (lamS1_by (sc := defScope s_ranked) (by decide +kernel)) rfl (fun _ _ _ _ _ _ => rfl) rfl rfl (he := (ve_var (i := 0) rfl)))))) vb_nil)
      (vb_one (vs_ret (ve_if (vt_cmp (op_eqD hr.units) ov_eq (ve_var (i := 2) rfl) ve_str (nomark _)) (ve_var (i := 0) rfl) (ve_new (vf_rev (ve_var (i := 0) rfl))))))))
def C_ranked : FF := fnV 3 (f_ranked )
theorem dd_ranked (T : Txt K mg base tb) : Def Pg w K mg base "ranked" 1 ["bills", "left", "choice"] (spV ⟨[1], tb⟩ 3 C_ranked) := ok_ranked T 
theorem sc_pair_row : FnScope ["account", "index", "other", "much"] ["account", "index", "other", "much"] (defScope s_pair_row) := ⟨rfl, rfl, rfl, by decide +kernel, rfl, by decide +kernel, by decide +kernel⟩
def f_pair_row : FS := (sSeq (sIf (fBool (eOp gEq (eOp gIx (eOp gIx (eVar [] 0) (eVar [] 1)) (eC (.int 0))) (eC (.str (Str.ofString "bill"))))) (sRet (eTup (aCons (eVar [] 1) (aCons (eVar [] 2) (aCons (eVar [] 3) aNil))))) sNil)
    (sRet (eTup (aCons (eVar [] 2) (aCons (eVar [] 1) (aCons (eVar [] 3) aNil))))))
theorem ok_pair_row (T : Txt K mg base tb)  : Def Pg w K mg base "pair_row" 1 ["account", "index", "other", "much"] (spV ⟨[], tb⟩ 4 (fnV 4 (f_pair_row ))) :=
  def_V (N := ["account", "index", "other", "much"]) T.d_pair_row sc_pair_row fun fa cdv A outer s H E hr =>
    (vb_cons (vs_if (vt_cmp (op_eqD hr.units) ov_eq (ve_ix ix_seq ov_ix (ve_ix ix_seq ov_ix (ve_var (i := 0) rfl) (ve_var (i := 1) rfl) (fun _ _ => rfl)) ve_int (fun _ _ => rfl)) ve_str (nomark _)) (vb_one (vs_ret (ve_tup (va_cons (ve_var (i := 1) rfl) (va_cons (ve_var (i := 2) rfl) (va_cons (ve_var (i := 3) rfl) va_nil)))))) vb_nil)
      (vb_one (vs_ret (ve_tup (va_cons (ve_var (i := 2) rfl) (va_cons (ve_var (i := 1) rfl) (va_cons (ve_var (i := 3) rfl) va_nil)))))))
def C_pair_row : FF := fnV 4 (f_pair_row )
theorem dd_pair_row (T : Txt K mg base tb) : Def Pg w K mg base "pair_row" 1 ["account", "index", "other", "much"] (spV ⟨[], tb⟩ 4 C_pair_row) := ok_pair_row T 
theorem sc__law_filled : FnScope ["cell"] ["cell"] (defScope s__law_filled) := ⟨rfl, rfl, rfl, by decide +kernel, rfl, by decide +kernel, by decide +kernel⟩
def f__law_filled : FS := (sRetF (lLst (aCons (eCall gMax2 (aCons (eC (.int 0)) (aCons (eOp gSub (eVar [] 0) (eOp gPow (eC (.int 10)) (eC (.int 18)))) aNil))) (aCons (eC (.int 0)) (aCons (eOp gMod (eCall gInt (aCons (eVar [] 0) aNil)) (eC (.int 2147483629))) aNil)))))
theorem ok__law_filled (T : Txt K mg base tb)  : Def Pg w K mg base "_law_filled" 1 ["cell"] (spL ⟨[], tb⟩ 1 (fnL 1 (f__law_filled ))) :=
  def_L (N := ["cell"]) T.d__law_filled sc__law_filled fun fa cdv A outer s H E hr =>
    (vb_one (vs_retF (vf_lst (va_cons (ve_callB (call_max2 rfl) ca_max2 (by rfl) T.z_max (by decide +kernel) (va_cons ve_int (va_cons (ve_op op_sub ov_sub (ve_var (i := 0) rfl) (ve_op op_pow ov_pow ve_int ve_int)) va_nil))) (va_cons ve_int (va_cons (ve_op op_mod ov_mod (ve_callTy call_int1 ca_int (by rfl) T.z_int (by decide +kernel) (va_cons (ve_var (i := 0) rfl) va_nil)) ve_int) va_nil))))))
def C_filled : FFL := fnL 1 (f__law_filled )
theorem dd__law_filled (T : Txt K mg base tb) : Def Pg w K mg base "_law_filled" 1 ["cell"] (spL ⟨[], tb⟩ 1 C_filled) := ok__law_filled T 
theorem sc__law_pick : FnScope ["jar", "many", "found", "turn", "big", "stir"] ["jar", "many"] (defScope s__law_pick) := ⟨rfl, rfl, rfl, by decide +kernel, rfl, by decide +kernel, by decide +kernel⟩
def f__law_pick : FS := (sSeq (sPut 0 (eOp gAdd (eGet 0 (eC (.int 1))) (eC (.int 1))) (eC (.int 1)))
    (sSeq (sIf (fBool (eOp gGt (eGet 0 (eC (.int 0))) (eC (.int 1)))) (sSeq (sSet 4 (eGet 0 (eC (.int 0))))
    (sSeq (sPut 0 (eOp gFdiv (eVar [0] 4) (eVar [0] 1)) (eC (.int 0)))
    (sRet (eOp gMod (eCall gInt (aCons (eVar [0] 4) aNil)) (eVar [0] 1))))) sNil)
    (sSeq (sSet 2 (eC (.int 0)))
    (sSeq (sFor (iRange1 (aCons (eOp gAdd (eC (.int 1)) (eOp gFdiv (eCall gLen (aCons (eCall gStr (aCons (eVar [0] 1) aNil)) aNil)) (eC (.int 8)))) aNil)) (gNm 3) (sSeq (sSet 5 (eOp gMod (eCall gInt (aCons (eOp gAdd (eOp gAdd (eOp gAdd (eGet 0 (eC (.int 2))) (eOp gMulI (eOp gMulI (eC (.int 7919)) (eGet 0 (eC (.int 1)))) (eGet 0 (eC (.int 1))))) (eOp gMulI (eC (.int 31)) (eVar [0] 3))) (eC (.int 1))) aNil)) (eC (.int 2147483629))))
    (sSeq (sSet 5 (eOp gMod (eCall gInt (aCons (eOp gAdd (eOp gAdd (eOp gMulI (eVar [0] 5) (eVar [0] 5)) (eOp gMulI (eC (.int 48271)) (eGet 0 (eC (.int 1))))) (eVar [0] 3)) aNil)) (eC (.int 2147483647))))
    (sSeq (sSet 5 (eOp gMod (eCall gInt (aCons (eOp gMulI (eVar [0] 5) (eVar [0] 5)) aNil)) (eC (.int 2147483587))))
    (sSet 2 (eOp gAdd (eOp gMulI (eVar [0] 2) (eC (.int 100000007))) (eOp gFdiv (eVar [0] 5) (eC (.int 8)))))))))
    (sRet (eOp gMod (eCall gInt (aCons (eVar [0] 2) aNil)) (eVar [0] 1)))))))
theorem ok__law_pick (T : Txt K mg base tb)  : Def Pg w K mg base "_law_pick" 1 ["jar", "many"] (spV ⟨[0], tb⟩ 2 (fnV 6 (f__law_pick ))) :=
  def_V (N := ["jar", "many", "found", "turn", "big", "stir"]) T.d__law_pick sc__law_pick fun fa cdv A outer s H E hr =>
    (vb_cons (vs_put (i := 0) rfl (hx := ve_int) (he := (ve_op op_addAll ov_add (ve_get (i := 0) rfl (hx := ve_int) (hs := by intro _ _; rfl)) ve_int)))
      (vb_cons (vs_if (vt_cmp op_gt ov_gt (ve_get (i := 0) rfl (hx := ve_int) (hs := by intro _ _; rfl)) ve_int (nomark _)) (vb_cons (vs_set (i := 4) sc__law_pick.nd rfl (hP := pl_not (by decide)) (he := (ve_get (i := 0) rfl (hx := ve_int) (hs := by intro _ _; rfl))))
      (vb_cons (vs_put (i := 0) rfl (hx := ve_int) (he := (ve_op op_fdivW ov_fdiv (ve_var (i := 4) rfl) (ve_var (i := 1) rfl))))
      (vb_one (vs_ret (ve_op op_mod ov_mod (ve_callTy call_int1 ca_int (by rfl) T.z_int (by decide +kernel) (va_cons (ve_var (i := 4) rfl) va_nil)) (ve_var (i := 1) rfl)))))) vb_nil)
      (vb_cons (vs_set (i := 2) sc__law_pick.nd rfl (hP := pl_not (by decide)) (he := ve_int))
      (vb_cons (vs_for PassesOwn.never rfl (vi_range1 (by rfl) T.z_range (va_cons (ve_op op_addAll ov_add ve_int (ve_op op_fdivW ov_fdiv (ve_callB call_len ca_len (by rfl) T.z_len (by decide +kernel) (va_cons (ve_callTy call_str_int ca_str (by rfl) T.z_str (by decide +kernel) (va_cons (ve_var (i := 1) rfl) va_nil)) va_nil)) ve_int)) va_nil)) (vg_name (i := 3) sc__law_pick.nd rfl (hP := pl_not (by decide))) (vb_cons (vs_set (i := 5) sc__law_pick.nd rfl (hP := pl_not (by decide)) (he := (ve_op op_mod ov_mod (ve_callTy call_int1 ca_int (by rfl) T.z_int (by decide +kernel) (va_cons (ve_op op_addAll ov_add (ve_op op_addAll ov_add (ve_op op_addAll ov_add (ve_get (i := 0) rfl (hx := ve_int) (hs := by intro _ _; rfl)) (ve_op op_mulW ov_mulI (ve_op op_mulW ov_mulI ve_int (ve_get (i := 0) rfl (hx := ve_int) (hs := by intro _ _; rfl))) (ve_get (i := 0) rfl (hx := ve_int) (hs := by intro _ _; rfl)))) (ve_op op_mulW ov_mulI ve_int (ve_var (i := 3) rfl))) ve_int) va_nil)) ve_int)))
      (vb_cons (vs_set (i := 5) sc__law_pick.nd rfl (hP := pl_not (by decide)) (he := (ve_op op_mod ov_mod (ve_callTy call_int1 ca_int (by rfl) T.z_int (by decide +kernel) (va_cons (ve_op op_addAll ov_add (ve_op op_addAll ov_add (ve_op op_mulW ov_mulI (ve_var (i := 5) rfl) (ve_var (i := 5) rfl)) (ve_op op_mulW ov_mulI ve_int (ve_get (i := 0) rfl (hx := ve_int) (hs := by intro _ _; rfl)))) (ve_var (i := 3) rfl)) va_nil)) ve_int)))
      (vb_cons (vs_set (i := 5) sc__law_pick.nd rfl (hP := pl_not (by decide)) (he := (ve_op op_mod ov_mod (ve_callTy call_int1 ca_int (by rfl) T.z_int (by decide +kernel) (va_cons (ve_op op_mulW ov_mulI (ve_var (i := 5) rfl) (ve_var (i := 5) rfl)) va_nil)) ve_int)))
      (vb_one (vs_set (i := 2) sc__law_pick.nd rfl (hP := pl_not (by decide)) (he := (ve_op op_addAll ov_add (ve_op op_mulW ov_mulI (ve_var (i := 2) rfl) ve_int) (ve_op op_fdivW ov_fdiv (ve_var (i := 5) rfl) ve_int)))))))))
      (vb_one (vs_ret (ve_op op_mod ov_mod (ve_callTy call_int1 ca_int (by rfl) T.z_int (by decide +kernel) (va_cons (ve_var (i := 2) rfl) va_nil)) (ve_var (i := 1) rfl))))))))
def C_pick : FF := fnV 6 (f__law_pick )
theorem dd__law_pick (T : Txt K mg base tb) : Def Pg w K mg base "_law_pick" 1 ["jar", "many"] (spV ⟨[0], tb⟩ 2 C_pick) := ok__law_pick T 
theorem sc__law_is_int : FnScope ["thing"] ["thing"] (defScope s__law_is_int) := ⟨rfl, rfl, rfl, by decide +kernel, rfl, by decide +kernel, by decide +kernel⟩
def f__law_is_int : FS := (sRet (eAnd (eIsi "int" (eVar [] 0)) (eNot (eIsi "bool" (eVar [] 0)))))
theorem ok__law_is_int (T : Txt K mg base tb)  : Def Pg w K mg base "_law_is_int" 1 ["thing"] (spV ⟨[], tb⟩ 1 (fnV 1 (f__law_is_int ))) :=
  def_V (N := ["thing"]) T.d__law_is_int sc__law_is_int fun fa cdv A outer s H E hr =>
    (vb_one (vs_ret (ve_and (ve_isi (by decide) (by rfl) T.z_isinstance (by rfl) T.z_int (by rfl) (ve_var (i := 0) rfl)) (ve_one (ve_not (ve_isi (by decide) (by rfl) T.z_isinstance (by rfl) T.z_bool (by rfl) (ve_var (i := 0) rfl)))))))
def C_is_int : FF := fnV 1 (f__law_is_int )
theorem dd__law_is_int (T : Txt K mg base tb) : Def Pg w K mg base "_law_is_int" 1 ["thing"] (spV ⟨[], tb⟩ 1 C_is_int) := ok__law_is_int T 
theorem sc__law_along : FnScope ["acct", "spots", "at"] ["acct"] (defScope s__law_along) := ⟨rfl, rfl, rfl, by decide +kernel, rfl, by decide +kernel, by decide +kernel⟩
def f__law_along : FS := (sSeq (sSet 1 (eNew (lComp (iRange1 (aCons (eCall gLen (aCons (eVar [] 0) aNil)) aNil)) (gNm 2) (fBool (eOp gNe (eOp gIx (eOp gIx (eVar [] 0) (eVar [] 2)) (eC (.int 0))) (eC (.str (Str.ofString "struck"))))) (eVar [] 2) [2])))
    (sRetF (lSortDay 0 (eVar [] 1))))
theorem ok__law_along (T : Txt K mg base tb)  : Def Pg w K mg base "_law_along" 1 ["acct"] (spL ⟨[], tb⟩ 1 (fnL 3 (f__law_along ))) :=
  def_LT (P := ⟨[], tb⟩) (N := ["acct", "spots", "at"]) T.d__law_along sc__law_along fun fa cdv tbl A outer s H E TB hm hu hr =>
    (vb_cons (vs_setLc (i := 1) rfl sc__law_along.nd rfl rfl (pl_not (by decide)) (sw_true rfl rfl rfl (by decide +kernel)) (vi_range1 (by rfl) T.z_range (va_cons (ve_callB call_len ca_len (by rfl) T.z_len (by decide +kernel) (va_cons (ve_var (i := 0) rfl) va_nil)) va_nil)) (blkOk_by (own := [("at", 2)]) (N := ["acct", "spots", "at"]) (sc := defScope s__law_along) (by decide +kernel)) rfl (pl_all (by decide)) (by decide) (fun _ _ _ _ _ => (vg_name (i := 2) sc__law_along.nd rfl (hP := pl_not (by decide)))) (fun _ _ _ _ _ => (vts_one (vt_cmp (op_neD hr.units) ov_ne (ve_ix ix_seq ov_ix (ve_ix ix_seq ov_ix (ve_var (i := 0) rfl) (ve_var (i := 2) rfl) (fun _ _ => rfl)) ve_int (fun _ _ => rfl)) ve_str (nomark _)))) (fun _ _ _ _ _ => (ve_var (i := 2) rfl)))
      (vb_one (vs_retF (vf_sortDay (i := 0) hr (by rfl) T.z_sorted TB rfl hm hu (lamS1_by (sc := defScope s__law_along) (by decide +kernel)) rfl (fun _ _ _ _ _ _ => rfl) rfl rfl (he := (ve_var (i := 1) rfl))))))
def C__law_along : FFL := fnL 3 (f__law_along )
theorem dd__law_along (T : Txt K mg base tb) : Def Pg w K mg base "_law_along" 1 ["acct"] (spL ⟨[], tb⟩ 1 C__law_along) := ok__law_along T 
theorem sc__law_mate : FnScope ["acct", "along_v", "left", "spot", "rule", "slip", "mates", "wanted", "at"] ["acct", "along_v", "left", "spot", "rule"] (defScope s__law_mate) := ⟨rfl, rfl, rfl, by decide +kernel, rfl, by decide +kernel, by decide +kernel⟩
def f__law_mate : FS := (sSeq (sSet 5 (eOp gIx (eVar [2] 0) (eVar [2] 3)))
    (sSeq (sIf (fAnd (fBool (eOp gEq (eOp gIx (eVar [2] 5) (eC (.int 0))) (eC (.str (Str.ofString "named"))))) (fBool (eOp gGt (eGetDf 2 (eOp gIx (eVar [2] 5) (eC (.int 3))) (eC (.int 0))) (eC (.int 0))))) (sRet (eOp gIx (eVar [2] 5) (eC (.int 3)))) sNil)
    (sSeq (sSet 6 (eNew (lComp (iItems (eVar [2] 1)) (gNm 8) (fAnd (fBool (eOp gGt (eGetDf 2 (eVar [2] 8) (eC (.int 0))) (eC (.int 0)))) (fBool (eOp gNe (eOp gEq (eOp gIx (eOp gIx (eVar [2] 0) (eVar [2] 8)) (eC (.int 0))) (eC (.str (Str.ofString "bill")))) (eOp gEq (eOp gIx (eVar [2] 5) (eC (.int 0))) (eC (.str (Str.ofString "bill"))))))) (eVar [2] 8) [8])))
    (sSeq (sIf (fBool (eOp gEq (eVar [2] 6) (eLst aNil))) (sRet (eNeg (eC (.int 1)))) sNil)
    (sSeq (sIf (fOr (fBool (eOp gEq (eOp gIx (eVar [2] 5) (eC (.int 0))) (eC (.str (Str.ofString "bill"))))) (fBool (eOp gEq (eVar [2] 4) (eC (.str (Str.ofString "oldest")))))) (sRet (eOp gIx (eVar [2] 6) (eC (.int 0)))) sNil)
    (sSeq (sIf (fBool (eOp gEq (eVar [2] 4) (eC (.str (Str.ofString "newest"))))) (sRet (eOp gIx (eVar [2] 6) (eNeg (eC (.int 1))))) sNil)
    (sSeq (sSet 7 (eCall gMaxL (aCons (eNew (lComp (iItems (eVar [2] 6)) (gNm 8) tYesV (eGetD 2 (eVar [2] 8)) [8])) aNil)))
    (sSeq (sIf (fBool (eOp gEq (eVar [2] 4) (eC (.str (Str.ofString "least"))))) (sSet 7 (eCall gMinL (aCons (eNew (lComp (iItems (eVar [2] 6)) (gNm 8) tYesV (eGetD 2 (eVar [2] 8)) [8])) aNil))) sNil)
    (sRet (eOp gIx (eNew (lComp (iItems (eVar [2] 6)) (gNm 8) (fBool (eOp gEq (eGetD 2 (eVar [2] 8)) (eVar [2] 7))) (eVar [2] 8) [8])) (eC (.int 0))))))))))))
theorem ok__law_mate (T : Txt K mg base tb)  : Def Pg w K mg base "_law_mate" 1 ["acct", "along_v", "left", "spot", "rule"] (spV ⟨[2], tb⟩ 5 (fnV 9 (f__law_mate ))) :=
  def_V (N := ["acct", "along_v", "left", "spot", "rule", "slip", "mates", "wanted", "at"]) T.d__law_mate sc__law_mate fun fa cdv A outer s H E hr =>
    (vb_cons (vs_set (i := 5) sc__law_mate.nd rfl (hP := pl_not (by decide)) (he := (ve_ix ix_seq ov_ix (ve_var (i := 0) rfl) (ve_var (i := 3) rfl) (fun _ _ => rfl))))
      (vb_cons (vs_if (vt_bop (vw_and (vt_cmp (op_eqD hr.units) ov_eq (ve_ix ix_seq ov_ix (ve_var (i := 5) rfl) ve_int (fun _ _ => rfl)) ve_str (nomark _)) (vw_and1 (vt_cmp op_gt ov_gt (ve_getDf (i := 2) hr.units rfl (hx := (ve_ix ix_seq ov_ix (ve_var (i := 5) rfl) ve_int (fun _ _ => rfl))) (hy := ve_int)) ve_int (nomark _))))) (vb_one (vs_ret (ve_ix ix_seq ov_ix (ve_var (i := 5) rfl) ve_int (fun _ _ => rfl)))) vb_nil)
      (vb_cons (vs_setLc (i := 6) rfl sc__law_mate.nd rfl rfl (pl_not (by decide)) (sw_true rfl rfl rfl (by decide +kernel)) (vi_seq (ve_var (i := 1) rfl)) (blkOk_by (own := [("at", 8)]) (N := ["acct", "along_v", "left", "spot", "rule", "slip", "mates", "wanted", "at"]) (sc := defScope s__law_mate) (by decide +kernel)) rfl (pl_all (by decide)) (by decide) (fun _ _ _ _ _ => (vg_name (i := 8) sc__law_mate.nd rfl (hP := pl_not (by decide)))) (fun _ _ _ _ _ => (vts_one (vt_bop (vw_and (vt_cmp op_gt ov_gt (ve_getDf (i := 2) hr.units rfl (hx := (ve_var (i := 8) rfl)) (hy := ve_int)) ve_int (nomark _)) (vw_and1 (vt_cmp (op_neD hr.units) ov_ne (ve_cmp (op_eqD hr.units) ov_eq (ve_ix ix_seq ov_ix (ve_ix ix_seq ov_ix (ve_var (i := 0) rfl) (ve_var (i := 8) rfl) (fun _ _ => rfl)) ve_int (fun _ _ => rfl)) ve_str (nomark _)) (ve_cmp (op_eqD hr.units) ov_eq (ve_ix ix_seq ov_ix (ve_var (i := 5) rfl) ve_int (fun _ _ => rfl)) ve_str (nomark _)) (nomark _))))))) (fun _ _ _ _ _ => (ve_var (i := 8) rfl)))
      (vb_cons (vs_if (vt_cmp (op_eqD hr.units) ov_eq (ve_var (i := 6) rfl) (ve_lst va_nil) (nomark _)) (vb_one (vs_ret (ve_neg ve_int))) vb_nil)
      (vb_cons (vs_if (vt_bop (vw_or (vt_cmp (op_eqD hr.units) ov_eq (ve_ix ix_seq ov_ix (ve_var (i := 5) rfl) ve_int (fun _ _ => rfl)) ve_str (nomark _)) (vw_or1 (vt_cmp (op_eqD hr.units) ov_eq (ve_var (i := 4) rfl) ve_str (nomark _))))) (vb_one (vs_ret (ve_ix ix_seq ov_ix (ve_var (i := 6) rfl) ve_int (fun _ _ => rfl)))) vb_nil)
      (vb_cons (vs_if (vt_cmp (op_eqD hr.units) ov_eq (ve_var (i := 4) rfl) ve_str (nomark _)) (vb_one (vs_ret (ve_ix ix_seq ov_ix (ve_var (i := 6) rfl) (ve_neg ve_int) (fun _ _ => rfl)))) vb_nil)
      (vb_cons (vs_set (i := 7) sc__law_mate.nd rfl (hP := pl_not (by decide)) (he := (ve_callB (cr_max rfl) ca_maxL (by rfl) T.z_max (by decide +kernel) (va_cons (ve_new (vf_lc rfl sc__law_mate.nd (vi_seq (ve_var (i := 6) rfl)) (blkOk_by (own := [("at", 8)]) (N := ["acct", "along_v", "left", "spot", "rule", "slip", "mates", "wanted", "at"]) (sc := defScope s__law_mate) (by decide +kernel)) rfl (pl_all (by decide)) (by decide) (fun _ _ _ _ _ => (vg_name (i := 8) sc__law_mate.nd rfl (hP := pl_not (by decide)))) (fun _ _ _ _ _ => vts_nil) (fun _ _ _ _ _ => (ve_getD (i := 2) hr.units rfl (hx := (ve_var (i := 8) rfl)))))) va_nil))))
      (vb_cons (vs_if (vt_cmp (op_eqD hr.units) ov_eq (ve_var (i := 4) rfl) ve_str (nomark _)) (vb_one (vs_set (i := 7) sc__law_mate.nd rfl (hP := pl_not (by decide)) (he := (ve_callB (cr_min rfl) ca_minL (by rfl) T.z_min (by decide +kernel) (va_cons (ve_new (vf_lc rfl sc__law_mate.nd (vi_seq (ve_var (i := 6) rfl)) (blkOk_by (own := [("at", 8)]) (N := ["acct", "along_v", "left", "spot", "rule", "slip", "mates", "wanted", "at"]) (sc := defScope s__law_mate) (by decide +kernel)) rfl (pl_all (by decide)) (by decide) (fun _ _ _ _ _ => (vg_name (i := 8) sc__law_mate.nd rfl (hP := pl_not (by decide)))) (fun _ _ _ _ _ => vts_nil) (fun _ _ _ _ _ => (ve_getD (i := 2) hr.units rfl (hx := (ve_var (i := 8) rfl)))))) va_nil))))) vb_nil)
      (vb_one (vs_ret (ve_ix ix_seq ov_ix (ve_new (vf_lc rfl sc__law_mate.nd (vi_seq (ve_var (i := 6) rfl)) (blkOk_by (own := [("at", 8)]) (N := ["acct", "along_v", "left", "spot", "rule", "slip", "mates", "wanted", "at"]) (sc := defScope s__law_mate) (by decide +kernel)) rfl (pl_all (by decide)) (by decide) (fun _ _ _ _ _ => (vg_name (i := 8) sc__law_mate.nd rfl (hP := pl_not (by decide)))) (fun _ _ _ _ _ => (vts_one (vt_cmp (op_eqD hr.units) ov_eq (ve_getD (i := 2) hr.units rfl (hx := (ve_var (i := 8) rfl))) (ve_var (i := 7) rfl) (nomark _)))) (fun _ _ _ _ _ => (ve_var (i := 8) rfl)))) ve_int (fun _ _ => rfl))))))))))))
def C_mate : FF := fnV 9 (f__law_mate )
theorem dd__law_mate (T : Txt K mg base tb) : Def Pg w K mg base "_law_mate" 1 ["acct", "along_v", "left", "spot", "rule"] (spV ⟨[2], tb⟩ 5 C_mate) := ok__law_mate T 
theorem sc__law_sums_of : FnScope ["pairs", "sums", "debt", "money", "much"] ["pairs"] (defScope s__law_sums_of) := ⟨rfl, rfl, rfl, by decide +kernel, rfl, by decide +kernel, by decide +kernel⟩
def f__law_sums_of : FS := (sSeq (sNewD 1 true)
    (sSeq (sFor (iItems (eVar [] 0)) (gTp 3 (gsCons (gNm 2) (gsCons (gNm 3) (gsCons (gNm 4) gsNil)))) (sPutD 1 (eVar [] 4) (eTup (aCons (eVar [] 2) (aCons (eVar [] 3) aNil)))))
    (sRetD [] 1)))
theorem ok__law_sums_of (T : Txt K mg base tb)  : Def Pg w K mg base "_law_sums_of" 1 ["pairs"] (spD ⟨[], tb⟩ 1 (fnD 5 (f__law_sums_of ))) :=
  def_D (N := ["pairs", "sums", "debt", "money", "much"]) T.d__law_sums_of sc__law_sums_of fun fa cdv A outer s H E hr =>
    (vb_cons (vs_newD (i := 1) true sc__law_sums_of.nd rfl (hP := pl_not (by decide)))
      (vb_cons (vs_for PassesOwn.never rfl (vi_seq (ve_var (i := 0) rfl)) (vg_tup rfl (vgs_cons (vg_name (i := 2) sc__law_sums_of.nd rfl (hP := pl_not (by decide))) (vgs_cons (vg_name (i := 3) sc__law_sums_of.nd rfl (hP := pl_not (by decide))) (vgs_cons (vg_name (i := 4) sc__law_sums_of.nd rfl (hP := pl_not (by decide))) vgs_nil)))) (vb_one (vs_putD (i := 1) hr.units rfl (hx := (ve_tup (va_cons (ve_var (i := 2) rfl) (va_cons (ve_var (i := 3) rfl) va_nil)))) (he := (ve_var (i := 4) rfl)))))
      (vb_one (vs_retD (i := 1) rfl))))
def C_sums_of : FFD := fnD 5 (f__law_sums_of )
theorem dd__law_sums_of (T : Txt K mg base tb) : Def Pg w K mg base "_law_sums_of" 1 ["pairs"] (spD ⟨[], tb⟩ 1 C_sums_of) := ok__law_sums_of T 
theorem sc__law_due_moves : FnScope ["before", "behind", "rows", "pair"] ["before", "behind"] (defScope s__law_due_moves) := ⟨rfl, rfl, rfl, by decide +kernel, rfl, by decide +kernel, by decide +kernel⟩
def f__law_due_moves : FS := (sSeq (sOwn 2 (lLst aNil))
    (sSeq (sFor (iItems (eNew (lSortSetT (eOp gAdd (eNew (lKeysT 0)) (eNew (lKeysT 1)))))) (gNm 3) (sIf (fBool (eOp gNe (eGetDf 0 (eVar [0, 1] 3) (eC (.int 0))) (eGetDf 1 (eVar [0, 1] 3) (eC (.int 0))))) (sApp 2 (eTup (aCons (eOp gIx (eVar [0, 1] 3) (eC (.int 0))) (aCons (eOp gIx (eVar [0, 1] 3) (eC (.int 1))) (aCons (eGetDf 0 (eVar [0, 1] 3) (eC (.int 0))) (aCons (eGetDf 1 (eVar [0, 1] 3) (eC (.int 0))) aNil)))))) sNil))
    (sRetO [0, 1] 2)))
theorem ok__law_due_moves (T : Txt K mg base tb)  : Def Pg w K mg base "_law_due_moves" 1 ["before", "behind"] (spL ⟨[0, 1], tb⟩ 2 (fnL 4 (f__law_due_moves ))) :=
  def_L (N := ["before", "behind", "rows", "pair"]) T.d__law_due_moves sc__law_due_moves fun fa cdv A outer s H E hr =>
    (vb_cons (vs_own (i := 2) sc__law_due_moves.nd rfl (hP := pl_not (by decide)) (he := (vf_lst va_nil)))
      (vb_cons (vs_for PassesOwn.never rfl (vi_seq (ve_new (vf_sortSetT rfl (Nat.lt_of_succ_lt (room65 hr)) (by rfl) T.z_sorted (by rfl) T.z_set (ve_op op_addAll ov_add (ve_new (vf_listDT (i := 0) rfl rfl (hg := by rfl) (hm := T.z_list))) (ve_new (vf_listDT (i := 1) rfl rfl (hg := by rfl) (hm := T.z_list))))))) (vg_name (i := 3) sc__law_due_moves.nd rfl (hP := pl_not (by decide))) (vb_one (vs_if (vt_cmp (op_neD hr.units) ov_ne (ve_getDf (i := 0) hr.units rfl (hx := (ve_var (i := 3) rfl)) (hy := ve_int)) (ve_getDf (i := 1) hr.units rfl (hx := (ve_var (i := 3) rfl)) (hy := ve_int)) (nomark _)) (vb_one (vs_append (i := 2) rfl (he := (ve_tup (va_cons (ve_ix ix_seq ov_ix (ve_var (i := 3) rfl) ve_int (fun _ _ => rfl)) (va_cons (ve_ix ix_seq ov_ix (ve_var (i := 3) rfl) ve_int (fun _ _ => rfl)) (va_cons (ve_getDf (i := 0) hr.units rfl (hx := (ve_var (i := 3) rfl)) (hy := ve_int)) (va_cons (ve_getDf (i := 1) hr.units rfl (hx := (ve_var (i := 3) rfl)) (hy := ve_int)) va_nil)))))))) vb_nil)))
      (vb_one (vs_retO (i := 2) rfl))))
def C_due_moves : FFL := fnL 4 (f__law_due_moves )
theorem dd__law_due_moves (T : Txt K mg base tb) : Def Pg w K mg base "_law_due_moves" 1 ["before", "behind"] (spL ⟨[0, 1], tb⟩ 2 C_due_moves) := ok__law_due_moves T 
theorem sc_has_entry_form : FnScope ["value", "word", "day", "much", "bill"] ["value"] (defScope s_has_entry_form) := ⟨rfl, rfl, rfl, by decide +kernel, rfl, by decide +kernel, by decide +kernel⟩
def f_has_entry_form (c_is_integer : FF) (c_is_sum : FF) : FS := (sSeq (sIf (fBool (eTyp true "tuple" (eVar [] 0))) (sRet (eC (.bool false))) sNil)
    (sSeq (sIf (fBool (eOp gEq (eCall gLen (aCons (eVar [] 0) aNil)) (eC (.int 3)))) (sSeq (sAsg (eVar [] 0) (gTp 3 (gsCons (gNm 1) (gsCons (gNm 2) (gsCons (gNm 3) gsNil)))))
    (sRet (eAnd (eOr (eOp gEq (eVar [] 1) (eC (.str (Str.ofString "bill")))) (eOp gEq (eVar [] 1) (eC (.str (Str.ofString "pay"))))) (eAnd (eCallF [] 1 c_is_integer (mCons (eVar [] 2) mNil)) (eCallF [] 1 c_is_sum (mCons (eVar [] 3) mNil)))))) sNil)
    (sSeq (sIf (fBool (eOp gEq (eCall gLen (aCons (eVar [] 0) aNil)) (eC (.int 4)))) (sSeq (sAsg (eVar [] 0) (gTp 4 (gsCons (gNm 1) (gsCons (gNm 2) (gsCons (gNm 3) (gsCons (gNm 4) gsNil))))))
    (sRet (eAnd (eOp gEq (eVar [] 1) (eC (.str (Str.ofString "named")))) (eAnd (eCallF [] 1 c_is_integer (mCons (eVar [] 2) mNil)) (eAnd (eCallF [] 1 c_is_sum (mCons (eVar [] 3) mNil)) (eCallF [] 1 c_is_integer (mCons (eVar [] 4) mNil))))))) sNil)
    (sRet (eAnd (eOp gEq (eCall gLen (aCons (eVar [] 0) aNil)) (eC (.int 1))) (eOp gEq (eOp gIx (eVar [] 0) (eC (.int 0))) (eC (.str (Str.ofString "struck")))))))))
theorem ok_has_entry_form (T : Txt K mg base tb) {c_is_integer : FF} (D_is_integer : Def Pg w K mg base "is_integer" 1 ["value"] (spV ⟨[], tb⟩ 1 c_is_integer)) {c_is_sum : FF} (D_is_sum : Def Pg w K mg base "is_sum" 1 ["value"] (spV ⟨[], tb⟩ 1 c_is_sum)) : Def Pg w K mg base "has_entry_form" 2 ["value"] (spV ⟨[], tb⟩ 1 (fnV 5 (f_has_entry_form c_is_integer c_is_sum))) :=
  def_V (N := ["value", "word", "day", "much", "bill"]) T.d_has_entry_form sc_has_entry_form fun fa cdv A outer s H E hr =>
    (vb_cons (vs_if (vt_typNe (by decide) hr.units (by rfl) T.z_type (by rfl) T.z_tuple (by rfl) (ve_var (i := 0) rfl)) (vb_one (vs_ret ve_bl)) vb_nil)
      (vb_cons (vs_if (vt_cmp (op_eqD hr.units) ov_eq (ve_callB call_len ca_len (by rfl) T.z_len (by decide +kernel) (va_cons (ve_var (i := 0) rfl) va_nil)) ve_int (nomark _)) (vb_cons (vs_asg (ve_var (i := 0) rfl) (vg_tup rfl (vgs_cons (vg_name (i := 1) sc_has_entry_form.nd rfl (hP := pl_not (by decide))) (vgs_cons (vg_name (i := 2) sc_has_entry_form.nd rfl (hP := pl_not (by decide))) (vgs_cons (vg_name (i := 3) sc_has_entry_form.nd rfl (hP := pl_not (by decide))) vgs_nil)))))
      (vb_one (vs_ret (ve_and (ve_or (ve_cmp (op_eqD hr.units) ov_eq (ve_var (i := 1) rfl) ve_str (nomark _)) (ve_one (ve_cmp (op_eqD hr.units) ov_eq (ve_var (i := 1) rfl) ve_str (nomark _)))) (ve_and (ve_call D_is_integer (hr.mono (by decide)) (by rfl) (vm_cons (ve_var (i := 2) rfl) vm_nil)) (ve_one (ve_call D_is_sum (hr.mono (by decide)) (by rfl) (vm_cons (ve_var (i := 3) rfl) vm_nil)))))))) vb_nil)
      (vb_cons (vs_if (vt_cmp (op_eqD hr.units) ov_eq (ve_callB call_len ca_len (by rfl) T.z_len (by decide +kernel) (va_cons (ve_var (i := 0) rfl) va_nil)) ve_int (nomark _)) (vb_cons (vs_asg (ve_var (i := 0) rfl) (vg_tup rfl (vgs_cons (vg_name (i := 1) sc_has_entry_form.nd rfl (hP := pl_not (by decide))) (vgs_cons (vg_name (i := 2) sc_has_entry_form.nd rfl (hP := pl_not (by decide))) (vgs_cons (vg_name (i := 3) sc_has_entry_form.nd rfl (hP := pl_not (by decide))) (vgs_cons (vg_name (i := 4) sc_has_entry_form.nd rfl (hP := pl_not (by decide))) vgs_nil))))))
      (vb_one (vs_ret (ve_and (ve_cmp (op_eqD hr.units) ov_eq (ve_var (i := 1) rfl) ve_str (nomark _)) (ve_and (ve_call D_is_integer (hr.mono (by decide)) (by rfl) (vm_cons (ve_var (i := 2) rfl) vm_nil)) (ve_and (ve_call D_is_sum (hr.mono (by decide)) (by rfl) (vm_cons (ve_var (i := 3) rfl) vm_nil)) (ve_one (ve_call D_is_integer (hr.mono (by decide)) (by rfl) (vm_cons (ve_var (i := 4) rfl) vm_nil))))))))) vb_nil)
      (vb_one (vs_ret (ve_and (ve_cmp (op_eqD hr.units) ov_eq (ve_callB call_len ca_len (by rfl) T.z_len (by decide +kernel) (va_cons (ve_var (i := 0) rfl) va_nil)) ve_int (nomark _)) (ve_one (ve_cmp (op_eqD hr.units) ov_eq (ve_ix ix_seq ov_ix (ve_var (i := 0) rfl) ve_int (fun _ _ => rfl)) ve_str (nomark _)))))))))
def C_has_entry_form : FF := fnV 5 (f_has_entry_form C_is_integer C_is_sum)
theorem dd_has_entry_form (T : Txt K mg base tb) : Def Pg w K mg base "has_entry_form" 2 ["value"] (spV ⟨[], tb⟩ 1 C_has_entry_form) := ok_has_entry_form T (dd_is_integer T) (dd_is_sum T)
theorem sc_is_index : FnScope ["entries", "value"] ["entries", "value"] (defScope s_is_index) := ⟨rfl, rfl, rfl, by decide +kernel, rfl, by decide +kernel, by decide +kernel⟩
def f_is_index (c_is_integer : FF) : FS := (sRet (eAnd (eCallF [] 1 c_is_integer (mCons (eVar [] 1) mNil)) (eAnd (eChain gLe gLt (eC (.int 0)) (eVar [] 1) (eCall gLen (aCons (eVar [] 0) aNil))) (eOp gNe (eOp gIx (eOp gIx (eVar [] 0) (eVar [] 1)) (eC (.int 0))) (eC (.str (Str.ofString "struck")))))))
theorem ok_is_index (T : Txt K mg base tb) {c_is_integer : FF} (D_is_integer : Def Pg w K mg base "is_integer" 1 ["value"] (spV ⟨[], tb⟩ 1 c_is_integer)) : Def Pg w K mg base "is_index" 2 ["entries", "value"] (spV ⟨[], tb⟩ 2 (fnV 2 (f_is_index c_is_integer))) :=
  def_V (N := ["entries", "value"]) T.d_is_index sc_is_index fun fa cdv A outer s H E hr =>
    (vb_one (vs_ret (ve_and (ve_call D_is_integer (hr.mono (by decide)) (by rfl) (vm_cons (ve_var (i := 1) rfl) vm_nil)) (ve_and (ve_chain op_le (op_ltAll hr.units0) ov_le ov_lt ve_int (ve_var (i := 1) rfl) (ve_callB call_len ca_len (by rfl) T.z_len (by decide +kernel) (va_cons (ve_var (i := 0) rfl) va_nil))) (ve_one (ve_cmp (op_neD hr.units) ov_ne (ve_ix ix_seq ov_ix (ve_ix ix_seq ov_ix (ve_var (i := 0) rfl) (ve_var (i := 1) rfl) (fun _ _ => rfl)) ve_int (fun _ _ => rfl)) ve_str (nomark _)))))))
def C_is_index : FF := fnV 2 (f_is_index C_is_integer)
theorem dd_is_index (T : Txt K mg base tb) : Def Pg w K mg base "is_index" 2 ["entries", "value"] (spV ⟨[], tb⟩ 2 C_is_index) := ok_is_index T (dd_is_integer T)
theorem sc_check_manner : FnScope ["manner"] ["manner"] (defScope s_check_manner) := ⟨rfl, rfl, rfl, by decide +kernel, rfl, by decide +kernel, by decide +kernel⟩
def f_check_manner (c_fits_manner : FF) : FS := (sIf (fNot (fTru (eCallF [] 1 c_fits_manner (mCons (eVar [] 0) mNil)))) sNever sNil)
theorem ok_check_manner (T : Txt K mg base tb) {c_fits_manner : FF} (D_fits_manner : Def Pg w K mg base "fits_manner" 1 ["value"] (spV ⟨[], tb⟩ 1 c_fits_manner)) : Def Pg w K mg base "check_manner" 2 ["manner"] (spV ⟨[], tb⟩ 1 (fnV 1 (f_check_manner c_fits_manner))) :=
  def_V (N := ["manner"]) T.d_check_manner sc_check_manner fun fa cdv A outer s H E hr =>
    (vb_one (vs_if (vt_not (vt_truth (ve_call D_fits_manner (hr.mono (by decide)) (by rfl) (vm_cons (ve_var (i := 0) rfl) vm_nil)))) (vb_one vs_never) vb_nil))
def C_check_manner : FF := fnV 1 (f_check_manner C_fits_manner)
theorem dd_check_manner (T : Txt K mg base tb) : Def Pg w K mg base "check_manner" 2 ["manner"] (spV ⟨[], tb⟩ 1 C_check_manner) := ok_check_manner T (dd_fits_manner T)
theorem sc_partners_of : FnScope ["account", "index", "others", "left", "choice", "entry", "bills", "other", "bill"] ["account", "index", "others", "left", "choice"] (defScope s_partners_of) := ⟨rfl, rfl, rfl, by decide +kernel, rfl, by decide +kernel, by decide +kernel⟩
def f_partners_of (c_ranked : FF) : FS := (sSeq (sSet 5 (eOp gIx (eVar [3] 0) (eVar [3] 1)))
    (sSeq (sIf (fBool (eOp gEq (eOp gIx (eVar [3] 5) (eC (.int 0))) (eC (.str (Str.ofString "bill"))))) (sRet (eNew (lComp (iItems (eVar [3] 2)) (gNm 7) (fBool (eOp gNe (eOp gIx (eOp gIx (eVar [3] 0) (eVar [3] 7)) (eC (.int 0))) (eC (.str (Str.ofString "bill"))))) (eVar [3] 7) [7]))) sNil)
    (sSeq (sSet 6 (eCallF [1] 3 c_ranked (mCons (eNew (lComp (iItems (eVar [3] 2)) (gNm 7) (fBool (eOp gEq (eOp gIx (eOp gIx (eVar [3] 0) (eVar [3] 7)) (eC (.int 0))) (eC (.str (Str.ofString "bill"))))) (eVar [3] 7) [7])) (mOwn 3 (mCons (eVar [3] 4) mNil)))))
    (sSeq (sIf (fAnd (fBool (eOp gEq (eOp gIx (eVar [3] 5) (eC (.int 0))) (eC (.str (Str.ofString "named"))))) (fBool (eOp (gInL false) (eOp gIx (eVar [3] 5) (eC (.int 3))) (eVar [3] 6)))) (sRet (eOp gAdd (eLst (aCons (eOp gIx (eVar [3] 5) (eC (.int 3))) aNil)) (eNew (lComp (iItems (eVar [3] 6)) (gNm 8) (fBool (eOp gNe (eVar [3] 8) (eOp gIx (eVar [3] 5) (eC (.int 3))))) (eVar [3] 8) [8])))) sNil)
    (sRet (eVar [3] 6))))))
theorem ok_partners_of (T : Txt K mg base tb) {c_ranked : FF} (D_ranked : Def Pg w K mg base "ranked" 1 ["bills", "left", "choice"] (spV ⟨[1], tb⟩ 3 c_ranked)) : Def Pg w K mg base "partners_of" 2 ["account", "index", "others", "left", "choice"] (spV ⟨[3], tb⟩ 5 (fnV 9 (f_partners_of c_ranked))) :=
  def_V (N := ["account", "index", "others", "left", "choice", "entry", "bills", "other", "bill"]) T.d_partners_of sc_partners_of fun fa cdv A outer s H E hr =>
    (vb_cons (vs_set (i := 5) sc_partners_of.nd rfl (hP := pl_not (by decide)) (he := (ve_ix ix_seq ov_ix (ve_var (i := 0) rfl) (ve_var (i := 1) rfl) (fun _ _ => rfl))))
      (vb_cons (vs_if (vt_cmp (op_eqD hr.units) ov_eq (ve_ix ix_seq ov_ix (ve_var (i := 5) rfl) ve_int (fun _ _ => rfl)) ve_str (nomark _)) (vb_one (vs_ret (ve_new (vf_lc rfl sc_partners_of.nd (vi_seq (ve_var (i := 2) rfl)) (blkOk_by (own := [("other", 7)]) (N := ["account", "index", "others", "left", "choice", "entry", "bills", "other", "bill"]) (sc := defScope s_partners_of) (by decide +kernel)) rfl (pl_all (by decide)) (by decide) (fun _ _ _ _ _ => (vg_name (i := 7) sc_partners_of.nd rfl (hP := pl_not (by decide)))) (fun _ _ _ _ _ => (vts_one (vt_cmp (op_neD hr.units) ov_ne (ve_ix ix_seq ov_ix (ve_ix ix_seq ov_ix (ve_var (i := 0) rfl) (ve_var (i := 7) rfl) (fun _ _ => rfl)) ve_int (fun _ _ => rfl)) ve_str (nomark _)))) (fun _ _ _ _ _ => (ve_var (i := 7) rfl)))))) vb_nil)
      (vb_cons (vs_set (i := 6) sc_partners_of.nd rfl (hP := pl_not (by decide)) (he := (ve_call D_ranked (hr.mono (by decide)) (by rfl) (vm_cons (ve_new (vf_lc rfl sc_partners_of.nd (vi_seq (ve_var (i := 2) rfl)) (blkOk_by (own := [("other", 7)]) (N := ["account", "index", "others", "left", "choice", "entry", "bills", "other", "bill"]) (sc := defScope s_partners_of) (by decide +kernel)) rfl (pl_all (by decide)) (by decide) (fun _ _ _ _ _ => (vg_name (i := 7) sc_partners_of.nd rfl (hP := pl_not (by decide)))) (fun _ _ _ _ _ => (vts_one (vt_cmp (op_eqD hr.units) ov_eq (ve_ix ix_seq ov_ix (ve_ix ix_seq ov_ix (ve_var (i := 0) rfl) (ve_var (i := 7) rfl) (fun _ _ => rfl)) ve_int (fun _ _ => rfl)) ve_str (nomark _)))) (fun _ _ _ _ _ => (ve_var (i := 7) rfl)))) (vm_own (i := 3) rfl (hr := (vm_cons (ve_var (i := 4) rfl) vm_nil)))))))
      (vb_cons (vs_if (vt_bop (vw_and (vt_cmp (op_eqD hr.units) ov_eq (ve_ix ix_seq ov_ix (ve_var (i := 5) rfl) ve_int (fun _ _ => rfl)) ve_str (nomark _)) (vw_and1 (vt_cmp (op_inD (room65 hr)) ov_inL (ve_ix ix_seq ov_ix (ve_var (i := 5) rfl) ve_int (fun _ _ => rfl)) (ve_var (i := 6) rfl) (by rfl))))) (vb_one (vs_ret (ve_op op_addAll ov_add (ve_lst (va_cons (ve_ix ix_seq ov_ix (ve_var (i := 5) rfl) ve_int (fun _ _ => rfl)) va_nil)) (ve_new (vf_lc rfl sc_partners_of.nd (vi_seq (ve_var (i := 6) rfl)) (blkOk_by (own := [("bill", 8)]) (N := ["account", "index", "others", "left", "choice", "entry", "bills", "other", "bill"]) (sc := defScope s_partners_of) (by decide +kernel)) rfl (pl_all (by decide)) (by decide) (fun _ _ _ _ _ => (vg_name (i := 8) sc_partners_of.nd rfl (hP := pl_not (by decide)))) (fun _ _ _ _ _ => (vts_one (vt_cmp (op_neD hr.units) ov_ne (ve_var (i := 8) rfl) (ve_ix ix_seq ov_ix (ve_var (i := 5) rfl) ve_int (fun _ _ => rfl)) (nomark _)))) (fun _ _ _ _ _ => (ve_var (i := 8) rfl))))))) vb_nil)
      (vb_one (vs_ret (ve_var (i := 6) rfl)))))))
def C_partners_of : FF := fnV 9 (f_partners_of C_ranked)
theorem dd_partners_of (T : Txt K mg base tb) : Def Pg w K mg base "partners_of" 2 ["account", "index", "others", "left", "choice"] (spV ⟨[3], tb⟩ 5 C_partners_of) := ok_partners_of T (dd_ranked T)
theorem sc__law_frame : FnScope ["jar", "spot", "lows", "spans"] ["jar"] (defScope s__law_frame) := ⟨rfl, rfl, rfl, by decide +kernel, rfl, by decide +kernel, by decide +kernel⟩
def f__law_frame (c__law_pick : FF) : FS := (sSeq (sSet 1 (eCallF [0] 2 c__law_pick (mOwn 0 (mCons (eC (.int 7)) mNil))))
    (sSeq (sSet 2 (eLst (aCons (eC (.int 0)) (aCons (eC (.int 0)) (aCons (eNeg (eC (.int 3))) (aCons (eC (.int 999990)) (aCons (eNeg (eC (.int 999999))) (aCons (eC (.int 5)) (aCons (eNeg (eC (.int 20))) aNil)))))))))
    (sSeq (sSet 3 (eLst (aCons (eC (.int 1)) (aCons (eC (.int 3)) (aCons (eC (.int 8)) (aCons (eC (.int 8)) (aCons (eC (.int 1999999)) (aCons (eC (.int 30)) (aCons (eC (.int 40)) aNil)))))))))
    (sRet (eTup (aCons (eOp gIx (eVar [0] 2) (eVar [0] 1)) (aCons (eOp gIx (eVar [0] 3) (eVar [0] 1)) aNil)))))))
theorem ok__law_frame (T : Txt K mg base tb) {c__law_pick : FF} (D__law_pick : Def Pg w K mg base "_law_pick" 1 ["jar", "many"] (spV ⟨[0], tb⟩ 2 c__law_pick)) : Def Pg w K mg base "_law_frame" 2 ["jar"] (spV ⟨[0], tb⟩ 1 (fnV 4 (f__law_frame c__law_pick))) :=
  def_V (N := ["jar", "spot", "lows", "spans"]) T.d__law_frame sc__law_frame fun fa cdv A outer s H E hr =>
    (vb_cons (vs_set (i := 1) sc__law_frame.nd rfl (hP := pl_not (by decide)) (he := (ve_call D__law_pick (hr.mono (by decide)) (by rfl) (vm_own (i := 0) rfl (hr := (vm_cons ve_int vm_nil))))))
      (vb_cons (vs_set (i := 2) sc__law_frame.nd rfl (hP := pl_not (by decide)) (he := (ve_lst (va_cons ve_int (va_cons ve_int (va_cons (ve_neg ve_int) (va_cons ve_int (va_cons (ve_neg ve_int) (va_cons ve_int (va_cons (ve_neg ve_int) va_nil))))))))))
      (vb_cons (vs_set (i := 3) sc__law_frame.nd rfl (hP := pl_not (by decide)) (he := (ve_lst (va_cons ve_int (va_cons ve_int (va_cons ve_int (va_cons ve_int (va_cons ve_int (va_cons ve_int (va_cons ve_int va_nil))))))))))
      (vb_one (vs_ret (ve_tup (va_cons (ve_ix ix_seq ov_ix (ve_var (i := 2) rfl) (ve_var (i := 1) rfl) (fun _ _ => rfl)) (va_cons (ve_ix ix_seq ov_ix (ve_var (i := 3) rfl) (ve_var (i := 1) rfl) (fun _ _ => rfl)) va_nil))))))))
def C_frame : FF := fnV 4 (f__law_frame C_pick)
theorem dd__law_frame (T : Txt K mg base tb) : Def Pg w K mg base "_law_frame" 2 ["jar"] (spV ⟨[0], tb⟩ 1 C_frame) := ok__law_frame T (dd__law_pick T)
theorem sc__law_named : FnScope ["jar", "rows", "made", "spot", "debts", "at"] ["jar", "rows"] (defScope s__law_named) := ⟨rfl, rfl, rfl, by decide +kernel, rfl, by decide +kernel, by decide +kernel⟩
def f__law_named (c__law_pick : FF) : FS := (sSeq (sOwn 2 (lCall gListOf (aCons (eVar [0] 1) aNil)))
    (sSeq (sFor (iRange1 (aCons (eLenO 2) aNil)) (gNm 3) (sIf (fAnd (fBool (eOp gEq (eOp gIx (eGet 2 (eVar [0] 3)) (eC (.int 0))) (eC (.str (Str.ofString "pay"))))) (fBool (eOp gEq (eCallF [0] 2 c__law_pick (mOwn 0 (mCons (eC (.int 3)) mNil))) (eC (.int 1))))) (sSeq (sSet 4 (eNew (lComp (iRange1 (aCons (eLenO 2) aNil)) (gNm 5) (fAnd (fBool (eOp gEq (eOp gIx (eGet 2 (eVar [0] 5)) (eC (.int 0))) (eC (.str (Str.ofString "bill"))))) (fBool (eOp gLe (eOp gIx (eGet 2 (eVar [0] 5)) (eC (.int 1))) (eOp gIx (eGet 2 (eVar [0] 3)) (eC (.int 1)))))) (eVar [0] 5) [5])))
    (sIf (fBool (eOp gNe (eVar [0] 4) (eLst aNil))) (sPut 2 (eTup (aCons (eC (.str (Str.ofString "named"))) (aCons (eOp gIx (eGet 2 (eVar [0] 3)) (eC (.int 1))) (aCons (eOp gIx (eGet 2 (eVar [0] 3)) (eC (.int 2))) (aCons (eOp gIx (eVar [0] 4) (eCallF [0] 2 c__law_pick (mOwn 0 (mCons (eCall gLen (aCons (eVar [0] 4) aNil)) mNil)))) aNil))))) (eVar [0] 3)) sNil)) sNil))
    (sRet (eCall gTupOf (aCons (eVar [0] 2) aNil)))))
theorem ok__law_named (T : Txt K mg base tb) {c__law_pick : FF} (D__law_pick : Def Pg w K mg base "_law_pick" 1 ["jar", "many"] (spV ⟨[0], tb⟩ 2 c__law_pick)) : Def Pg w K mg base "_law_named" 2 ["jar", "rows"] (spV ⟨[0], tb⟩ 2 (fnV 6 (f__law_named c__law_pick))) :=
  def_V (N := ["jar", "rows", "made", "spot", "debts", "at"]) T.d__law_named sc__law_named fun fa cdv A outer s H E hr =>
    (vb_cons (vs_own (i := 2) sc__law_named.nd rfl (hP := pl_not (by decide)) (he := (vf_callTy call_list_of ca_list (by rfl) T.z_list (by decide +kernel) (va_cons (ve_var (i := 1) rfl) va_nil))))
      (vb_cons (vs_for PassesOwn.never rfl (vi_range1 (by rfl) T.z_range (va_cons (ve_lenO (i := 2) rfl (hg := by rfl) (hm := T.z_len)) va_nil)) (vg_name (i := 3) sc__law_named.nd rfl (hP := pl_not (by decide))) (vb_one (vs_if (vt_bop (vw_and (vt_cmp (op_eqD hr.units) ov_eq (ve_ix ix_seq ov_ix (ve_get (i := 2) rfl (hx := (ve_var (i := 3) rfl)) (hs := by intro _ _; rfl)) ve_int (fun _ _ => rfl)) ve_str (nomark _)) (vw_and1 (vt_cmp (op_eqD hr.units) ov_eq (ve_call D__law_pick (hr.mono (by decide)) (by rfl) (vm_own (i := 0) rfl (hr := (vm_cons ve_int vm_nil)))) ve_int (nomark _))))) (vb_cons (vs_setLc (i := 4) rfl sc__law_named.nd rfl rfl (pl_not (by decide)) (sw_true rfl rfl rfl (by decide +kernel)) (vi_range1 (by rfl) T.z_range (va_cons (ve_lenO (i := 2) rfl (hg := by rfl) (hm := T.z_len)) va_nil)) (blkOk_by (own := [("at", 5)]) (N := ["jar", "rows", "made", "spot", "debts", "at"]) (sc := defScope s__law_named) (by decide +kernel)) rfl (pl_all (by decide)) (by decide) (fun _ _ _ _ _ => (vg_name (i := 5) sc__law_named.nd rfl (hP := pl_not (by decide)))) (fun _ _ _ _ _ => (vts_one (vt_bop (vw_and (vt_cmp (op_eqD hr.units) ov_eq (ve_ix ix_seq ov_ix (ve_get (i := 2) rfl (hx := (ve_var (i := 5) rfl)) (hs := by intro _ _; rfl)) ve_int (fun _ _ => rfl)) ve_str (nomark _)) (vw_and1 (vt_cmp op_le ov_le (ve_ix ix_seq ov_ix (ve_get (i := 2) rfl (hx := (ve_var (i := 5) rfl)) (hs := by intro _ _; rfl)) ve_int (fun _ _ => rfl)) (ve_ix ix_seq ov_ix (ve_get (i := 2) rfl (hx := (ve_var (i := 3) rfl)) (hs := by intro _ _; rfl)) ve_int (fun _ _ => rfl)) (nomark _))))))) (fun _ _ _ _ _ => (ve_var (i := 5) rfl)))
      (vb_one (vs_if (vt_cmp (op_neD hr.units) ov_ne (ve_var (i := 4) rfl) (ve_lst va_nil) (nomark _)) (vb_one (vs_put (i := 2) rfl (hx := (ve_var (i := 3) rfl)) (he := (ve_tup (va_cons ve_str (va_cons (ve_ix ix_seq ov_ix (ve_get (i := 2) rfl (hx := (ve_var (i := 3) rfl)) (hs := by intro _ _; rfl)) ve_int (fun _ _ => rfl)) (va_cons (ve_ix ix_seq ov_ix (ve_get (i := 2) rfl (hx := (ve_var (i := 3) rfl)) (hs := by intro _ _; rfl)) ve_int (fun _ _ => rfl)) (va_cons (ve_ix ix_seq ov_ix (ve_var (i := 4) rfl) (ve_call D__law_pick (hr.mono (by decide)) (by rfl) (vm_own (i := 0) rfl (hr := (vm_cons (ve_callB call_len ca_len (by rfl) T.z_len (by decide +kernel) (va_cons (ve_var (i := 4) rfl) va_nil)) vm_nil)))) (fun _ _ => rfl)) va_nil)))))))) vb_nil))) vb_nil)))
      (vb_one (vs_ret (ve_callTy call_tuple_of ca_tuple (by rfl) T.z_tuple (by decide +kernel) (va_cons (ve_var (i := 2) rfl) va_nil))))))
def C_named : FF := fnV 6 (f__law_named C_pick)
theorem dd__law_named (T : Txt K mg base tb) : Def Pg w K mg base "_law_named" 2 ["jar", "rows"] (spV ⟨[0], tb⟩ 2 C_named) := ok__law_named T (dd__law_pick T)
theorem sc__law_many : FnScope ["jar", "upto"] ["jar", "upto"] (defScope s__law_many) := ⟨rfl, rfl, rfl, by decide +kernel, rfl, by decide +kernel, by decide +kernel⟩
def f__law_many (c__law_pick : FF) : FS := (sSeq (sIf (fBool (eOp gEq (eCallF [0] 2 c__law_pick (mOwn 0 (mCons (eC (.int 4)) mNil))) (eC (.int 1)))) (sRet (eCallF [0] 2 c__law_pick (mOwn 0 (mCons (eOp gAdd (eVar [0] 1) (eC (.int 1))) mNil)))) sNil)
    (sRet (eCall gMin2 (aCons (eVar [0] 1) (aCons (eOp gIx (eLst (aCons (eC (.int 0)) (aCons (eC (.int 3)) (aCons (eC (.int 4)) (aCons (eC (.int 5)) (aCons (eC (.int 6)) (aCons (eC (.int 7)) (aCons (eC (.int 8)) (aCons (eC (.int 10)) aNil))))))))) (eCallF [0] 2 c__law_pick (mOwn 0 (mCons (eC (.int 8)) mNil)))) aNil)))))
theorem ok__law_many (T : Txt K mg base tb) {c__law_pick : FF} (D__law_pick : Def Pg w K mg base "_law_pick" 1 ["jar", "many"] (spV ⟨[0], tb⟩ 2 c__law_pick)) : Def Pg w K mg base "_law_many" 2 ["jar", "upto"] (spV ⟨[0], tb⟩ 2 (fnV 2 (f__law_many c__law_pick))) :=
  def_V (N := ["jar", "upto"]) T.d__law_many sc__law_many fun fa cdv A outer s H E hr =>
    (vb_cons (vs_if (vt_cmp (op_eqD hr.units) ov_eq (ve_call D__law_pick (hr.mono (by decide)) (by rfl) (vm_own (i := 0) rfl (hr := (vm_cons ve_int vm_nil)))) ve_int (nomark _)) (vb_one (vs_ret (ve_call D__law_pick (hr.mono (by decide)) (by rfl) (vm_own (i := 0) rfl (hr := (vm_cons (ve_op op_addAll ov_add (ve_var (i := 1) rfl) ve_int) vm_nil)))))) vb_nil)
      (vb_one (vs_ret (ve_callB (call_min2 rfl) ca_min2 (by rfl) T.z_min (by decide +kernel) (va_cons (ve_var (i := 1) rfl) (va_cons (ve_ix ix_seq ov_ix (ve_lst (va_cons ve_int (va_cons ve_int (va_cons ve_int (va_cons ve_int (va_cons ve_int (va_cons ve_int (va_cons ve_int (va_cons ve_int va_nil))))))))) (ve_call D__law_pick (hr.mono (by decide)) (by rfl) (vm_own (i := 0) rfl (hr := (vm_cons ve_int vm_nil)))) (fun _ _ => rfl)) va_nil))))))
def C_many : FF := fnV 2 (f__law_many C_pick)
theorem dd__law_many (T : Txt K mg base tb) : Def Pg w K mg base "_law_many" 2 ["jar", "upto"] (spV ⟨[0], tb⟩ 2 C_many) := ok__law_many T (dd__law_pick T)
theorem sc__law_drawn_way : FnScope ["jar", "words"] ["jar"] (defScope s__law_drawn_way) := ⟨rfl, rfl, rfl, by decide +kernel, rfl, by decide +kernel, by decide +kernel⟩
def f__law_drawn_way (c__law_pick : FF) : FS := (sSeq (sSet 1 (eLst (aCons (eC (.str (Str.ofString "oldest"))) (aCons (eC (.str (Str.ofString "newest"))) (aCons (eC (.str (Str.ofString "greatest"))) (aCons (eC (.str (Str.ofString "least"))) aNil))))))
    (sRet (eTup (aCons (eOp gIx (eLst (aCons (eC (.str (Str.ofString "days"))) (aCons (eC (.str (Str.ofString "entered"))) aNil))) (eCallF [0] 2 c__law_pick (mOwn 0 (mCons (eC (.int 2)) mNil)))) (aCons (eOp gIx (eVar [0] 1) (eCallF [0] 2 c__law_pick (mOwn 0 (mCons (eC (.int 4)) mNil)))) aNil)))))
theorem ok__law_drawn_way (T : Txt K mg base tb) {c__law_pick : FF} (D__law_pick : Def Pg w K mg base "_law_pick" 1 ["jar", "many"] (spV ⟨[0], tb⟩ 2 c__law_pick)) : Def Pg w K mg base "_law_drawn_way" 2 ["jar"] (spV ⟨[0], tb⟩ 1 (fnV 2 (f__law_drawn_way c__law_pick))) :=
  def_V (N := ["jar", "words"]) T.d__law_drawn_way sc__law_drawn_way fun fa cdv A outer s H E hr =>
    (vb_cons (vs_set (i := 1) sc__law_drawn_way.nd rfl (hP := pl_not (by decide)) (he := (ve_lst (va_cons ve_str (va_cons ve_str (va_cons ve_str (va_cons ve_str va_nil)))))))
      (vb_one (vs_ret (ve_tup (va_cons (ve_ix ix_seq ov_ix (ve_lst (va_cons ve_str (va_cons ve_str va_nil))) (ve_call D__law_pick (hr.mono (by decide)) (by rfl) (vm_own (i := 0) rfl (hr := (vm_cons ve_int vm_nil)))) (fun _ _ => rfl)) (va_cons (ve_ix ix_seq ov_ix (ve_var (i := 1) rfl) (ve_call D__law_pick (hr.mono (by decide)) (by rfl) (vm_own (i := 0) rfl (hr := (vm_cons ve_int vm_nil)))) (fun _ _ => rfl)) va_nil))))))
def C_drawn_way : FF := fnV 2 (f__law_drawn_way C_pick)
theorem dd__law_drawn_way (T : Txt K mg base tb) : Def Pg w K mg base "_law_drawn_way" 2 ["jar"] (spV ⟨[0], tb⟩ 1 C_drawn_way) := ok__law_drawn_way T (dd__law_pick T)
theorem sc__law_lay : FnScope ["acct", "way", "along_v", "spots", "left", "rows", "spot", "turn", "mate", "much"] ["acct", "way"] (defScope s__law_lay) := ⟨rfl, rfl, rfl, by decide +kernel, rfl, by decide +kernel, by decide +kernel⟩
def f__law_lay (c__law_along : FFL) (c__law_mate : FF) : FS := (sSeq (sSet 2 (eNew (lCallF [] 1 c__law_along (mCons (eVar [] 0) mNil))))
    (sSeq (sSet 3 (eNew (lCall gListOf (aCons (eVar [] 2) aNil))))
    (sSeq (sIf (fBool (eOp gEq (eOp gIx (eVar [] 1) (eC (.int 0))) (eC (.str (Str.ofString "entered"))))) (sSet 3 (eNew (lCall gSortA (aCons (eVar [] 2) aNil)))) sNil)
    (sSeq (sNewD 4 false)
    (sSeq (sOwn 5 (lLst aNil))
    (sSeq (sFor (iItems (eVar [] 3)) (gNm 6) (sSeq (sPutD 4 (eOp gIx (eOp gIx (eVar [] 0) (eVar [] 6)) (eC (.int 2))) (eVar [] 6))
    (sFor (iRange1 (aCons (eCall gLen (aCons (eVar [] 0) aNil)) aNil)) (gNm 7) (sSeq (sSet 8 (eCallF [2] 5 c__law_mate (mCons (eVar [] 0) (mCons (eVar [] 2) (mOwn 4 (mCons (eVar [] 6) (mCons (eOp gIx (eVar [] 1) (eC (.int 1))) mNil)))))))
    (sSeq (sIf (fOr (fBool (eOp gEq (eGetD 4 (eVar [] 6)) (eC (.int 0)))) (fBool (eOp gLt (eVar [] 8) (eC (.int 0))))) sBrk sNil)
    (sSeq (sSet 9 (eCall gMin2 (aCons (eGetD 4 (eVar [] 6)) (aCons (eGetD 4 (eVar [] 8)) aNil))))
    (sSeq (sPutD 4 (eOp gSub (eGetD 4 (eVar [] 6)) (eVar [] 9)) (eVar [] 6))
    (sSeq (sPutD 4 (eOp gSub (eGetD 4 (eVar [] 8)) (eVar [] 9)) (eVar [] 8))
    (sIf (fBool (eOp gEq (eOp gIx (eOp gIx (eVar [] 0) (eVar [] 6)) (eC (.int 0))) (eC (.str (Str.ofString "bill"))))) (sApp 5 (eTup (aCons (eVar [] 6) (aCons (eVar [] 8) (aCons (eVar [] 9) aNil))))) (sApp 5 (eTup (aCons (eVar [] 8) (aCons (eVar [] 6) (aCons (eVar [] 9) aNil))))))))))))))
    (sRetF (lCall gSortA (aCons (eVar [] 5) aNil)))))))))
theorem ok__law_lay (T : Txt K mg base tb) {c__law_along : FFL} (D__law_along : Def Pg w K mg base "_law_along" 1 ["acct"] (spL ⟨[], tb⟩ 1 c__law_along)) {c__law_mate : FF} (D__law_mate : Def Pg w K mg base "_law_mate" 1 ["acct", "along_v", "left", "spot", "rule"] (spV ⟨[2], tb⟩ 5 c__law_mate)) : Def Pg w K mg base "_law_lay" 2 ["acct", "way"] (spL ⟨[], tb⟩ 2 (fnL 10 (f__law_lay c__law_along c__law_mate))) :=
  def_L (N := ["acct", "way", "along_v", "spots", "left", "rows", "spot", "turn", "mate", "much"]) T.d__law_lay sc__law_lay fun fa cdv A outer s H E hr =>
    (vb_cons (vs_set (i := 2) sc__law_lay.nd rfl (hP := pl_not (by decide)) (he := (ve_new (vf_call D__law_along (hr.mono (by decide)) (by rfl) (vm_cons (ve_var (i := 0) rfl) vm_nil)))))
      (vb_cons (vs_set (i := 3) sc__law_lay.nd rfl (hP := pl_not (by decide)) (he := (ve_new (vf_callTy call_list_of ca_list (by rfl) T.z_list (by decide +kernel) (va_cons (ve_var (i := 2) rfl) va_nil)))))
      (vb_cons (vs_if (vt_cmp (op_eqD hr.units) ov_eq (ve_ix ix_seq ov_ix (ve_var (i := 1) rfl) ve_int (fun _ _ => rfl)) ve_str (nomark _)) (vb_one (vs_set (i := 3) sc__law_lay.nd rfl (hP := pl_not (by decide)) (he := (ve_new (vf_callB (cr_sortA hr.units) ca_sortA (by rfl) T.z_sorted (by decide +kernel) (va_cons (ve_var (i := 2) rfl) va_nil)))))) vb_nil)
      (vb_cons (vs_newD (i := 4) false sc__law_lay.nd rfl (hP := pl_not (by decide)))
      (vb_cons (vs_own (i := 5) sc__law_lay.nd rfl (hP := pl_not (by decide)) (he := (vf_lst va_nil)))
      (vb_cons (vs_for PassesOwn.never rfl (vi_seq (ve_var (i := 3) rfl)) (vg_name (i := 6) sc__law_lay.nd rfl (hP := pl_not (by decide))) (vb_cons (vs_putD (i := 4) hr.units rfl (hx := (ve_var (i := 6) rfl)) (he := (ve_ix ix_seq ov_ix (ve_ix ix_seq ov_ix (ve_var (i := 0) rfl) (ve_var (i := 6) rfl) (fun _ _ => rfl)) ve_int (fun _ _ => rfl))))
      (vb_one (vs_for PassesOwn.never rfl (vi_range1 (by rfl) T.z_range (va_cons (ve_callB call_len ca_len (by rfl) T.z_len (by decide +kernel) (va_cons (ve_var (i := 0) rfl) va_nil)) va_nil)) (vg_name (i := 7) sc__law_lay.nd rfl (hP := pl_not (by decide))) (vb_cons (vs_set (i := 8) sc__law_lay.nd rfl (hP := pl_not (by decide)) (he := (ve_call D__law_mate (hr.mono (by decide)) (by rfl) (vm_cons (ve_var (i := 0) rfl) (vm_cons (ve_var (i := 2) rfl) (vm_own (i := 4) rfl (hr := (vm_cons (ve_var (i := 6) rfl) (vm_cons (ve_ix ix_seq ov_ix (ve_var (i := 1) rfl) ve_int (fun _ _ => rfl)) vm_nil)))))))))
      (vb_cons (vs_if (vt_bop (vw_or (vt_cmp (op_eqD hr.units) ov_eq (ve_getD (i := 4) hr.units rfl (hx := (ve_var (i := 6) rfl))) ve_int (nomark _)) (vw_or1 (vt_cmp (op_ltAll hr.units0) ov_lt (ve_var (i := 8) rfl) ve_int (nomark _))))) (vb_one vs_break) vb_nil)
      (vb_cons (vs_set (i := 9) sc__law_lay.nd rfl (hP := pl_not (by decide)) (he := (ve_callB (call_min2 rfl) ca_min2 (by rfl) T.z_min (by decide +kernel) (va_cons (ve_getD (i := 4) hr.units rfl (hx := (ve_var (i := 6) rfl))) (va_cons (ve_getD (i := 4) hr.units rfl (hx := (ve_var (i := 8) rfl))) va_nil)))))
      (vb_cons (vs_putD (i := 4) hr.units rfl (hx := (ve_var (i := 6) rfl)) (he := (ve_op op_sub ov_sub (ve_getD (i := 4) hr.units rfl (hx := (ve_var (i := 6) rfl))) (ve_var (i := 9) rfl))))
      (vb_cons (vs_putD (i := 4) hr.units rfl (hx := (ve_var (i := 8) rfl)) (he := (ve_op op_sub ov_sub (ve_getD (i := 4) hr.units rfl (hx := (ve_var (i := 8) rfl))) (ve_var (i := 9) rfl))))
      (vb_one (vs_if (vt_cmp (op_eqD hr.units) ov_eq (ve_ix ix_seq ov_ix (ve_ix ix_seq ov_ix (ve_var (i := 0) rfl) (ve_var (i := 6) rfl) (fun _ _ => rfl)) ve_int (fun _ _ => rfl)) ve_str (nomark _)) (vb_one (vs_append (i := 5) rfl (he := (ve_tup (va_cons (ve_var (i := 6) rfl) (va_cons (ve_var (i := 8) rfl) (va_cons (ve_var (i := 9) rfl) va_nil))))))) (vb_one (vs_append (i := 5) rfl (he := (ve_tup (va_cons (ve_var (i := 8) rfl) (va_cons (ve_var (i := 6) rfl) (va_cons (ve_var (i := 9) rfl) va_nil))))))))))))))))))
      (vb_one (vs_retF (vf_callB (cr_sortA hr.units) ca_sortA (by rfl) T.z_sorted (by decide +kernel) (va_cons (ve_var (i := 5) rfl) va_nil))))))))))
def C_lay : FFL := fnL 10 (f__law_lay C__law_along C_mate)
theorem dd__law_lay (T : Txt K mg base tb) : Def Pg w K mg base "_law_lay" 2 ["acct", "way"] (spL ⟨[], tb⟩ 2 C_lay) := ok__law_lay T (dd__law_along T) (dd__law_mate T)
theorem sc_is_bill_index : FnScope ["entries", "value"] ["entries", "value"] (defScope s_is_bill_index) := ⟨rfl, rfl, rfl, by decide +kernel, rfl, by decide +kernel, by decide +kernel⟩
def f_is_bill_index (c_is_index : FF) : FS := (sRet (eAnd (eCallF [] 2 c_is_index (mCons (eVar [] 0) (mCons (eVar [] 1) mNil))) (eOp gEq (eOp gIx (eOp gIx (eVar [] 0) (eVar [] 1)) (eC (.int 0))) (eC (.str (Str.ofString "bill"))))))
theorem ok_is_bill_index (T : Txt K mg base tb) {c_is_index : FF} (D_is_index : Def Pg w K mg base "is_index" 2 ["entries", "value"] (spV ⟨[], tb⟩ 2 c_is_index)) : Def Pg w K mg base "is_bill_index" 3 ["entries", "value"] (spV ⟨[], tb⟩ 2 (fnV 2 (f_is_bill_index c_is_index))) :=
  def_V (N := ["entries", "value"]) T.d_is_bill_index sc_is_bill_index fun fa cdv A outer s H E hr =>
    (vb_one (vs_ret (ve_and (ve_call D_is_index (hr.mono (by decide)) (by rfl) (vm_cons (ve_var (i := 0) rfl) (vm_cons (ve_var (i := 1) rfl) vm_nil))) (ve_one (ve_cmp (op_eqD hr.units) ov_eq (ve_ix ix_seq ov_ix (ve_ix ix_seq ov_ix (ve_var (i := 0) rfl) (ve_var (i := 1) rfl) (fun _ _ => rfl)) ve_int (fun _ _ => rfl)) ve_str (nomark _))))))
def C_is_bill_index : FF := fnV 2 (f_is_bill_index C_is_index)
theorem dd_is_bill_index (T : Txt K mg base tb) : Def Pg w K mg base "is_bill_index" 3 ["entries", "value"] (spV ⟨[], tb⟩ 2 C_is_bill_index) := ok_is_bill_index T (dd_is_index T)
theorem sc_gone_through : FnScope ["account", "manner", "sequence", "choice", "places", "walk", "left", "pairs", "met", "index", "others", "partners", "other", "entry", "much"] ["account", "manner"] (defScope s_gone_through) := ⟨rfl, rfl, rfl, by decide +kernel, rfl, by decide +kernel, by decide +kernel⟩
def f_gone_through (c_along : FFL) (c_sum_of : FF) (c_partners_of : FF) (c_pair_row : FF) : FS := (sSeq (sAsg (eVar [] 1) (gTp 2 (gsCons (gNm 2) (gsCons (gNm 3) gsNil))))
    (sSeq (sSet 4 (eNew (lCallF [] 1 c_along (mCons (eVar [] 0) mNil))))
    (sSeq (sSet 5 (eIf (fBool (eOp gEq (eVar [] 2) (eC (.str (Str.ofString "days"))))) (eVar [] 4) (eNew (lCall gSortA (aCons (eVar [] 4) aNil)))))
    (sSeq (sOwn 6 (lComp (iItems (eVar [] 0)) (gNm 13) tYesV (eCallF [] 1 c_sum_of (mCons (eVar [] 13) mNil)) [13]))
    (sSeq (sOwn 7 (lLst aNil))
    (sSeq (sNewD 8 false)
    (sSeq (sFor (iItems (eVar [] 5)) (gNm 9) (sSeq (sSet 10 (eNew (lComp (iItems (eVar [] 4)) (gNm 12) (fAnd (fBool (eInD false (eVar [] 12) 8)) (fBool (eOp gGt (eGet 6 (eVar [] 12)) (eC (.int 0))))) (eVar [] 12) [12])))
    (sSeq (sSet 11 (eCallF [3] 5 c_partners_of (mCons (eVar [] 0) (mCons (eVar [] 9) (mCons (eVar [] 10) (mOwn 6 (mCons (eVar [] 3) mNil)))))))
    (sSeq (sFor (iItems (eVar [] 11)) (gNm 12) (sSeq (sSet 14 (eCall gMin2 (aCons (eGet 6 (eVar [] 9)) (aCons (eGet 6 (eVar [] 12)) aNil))))
    (sIf (fBool (eOp gGt (eVar [] 14) (eC (.int 0)))) (sSeq (sPut 6 (eOp gSub (eGet 6 (eVar [] 9)) (eVar [] 14)) (eVar [] 9))
    (sSeq (sPut 6 (eOp gSub (eGet 6 (eVar [] 12)) (eVar [] 14)) (eVar [] 12))
    (sApp 7 (eCallF [] 4 c_pair_row (mCons (eVar [] 0) (mCons (eVar [] 9) (mCons (eVar [] 12) (mCons (eVar [] 14) mNil)))))))) sNil)))
    (sPutD 8 (eC (.bool true)) (eVar [] 9))))))
    (sRet (eTup (aCons (eVar [] 7) (aCons (eVar [] 6) aNil)))))))))))
theorem ok_gone_through (T : Txt K mg base tb) {c_along : FFL} (D_along : Def Pg w K mg base "along" 1 ["account"] (spL ⟨[], tb⟩ 1 c_along)) {c_sum_of : FF} (D_sum_of : Def Pg w K mg base "sum_of" 1 ["entry"] (spV ⟨[], tb⟩ 1 c_sum_of)) {c_partners_of : FF} (D_partners_of : Def Pg w K mg base "partners_of" 2 ["account", "index", "others", "left", "choice"] (spV ⟨[3], tb⟩ 5 c_partners_of)) {c_pair_row : FF} (D_pair_row : Def Pg w K mg base "pair_row" 1 ["account", "index", "other", "much"] (spV ⟨[], tb⟩ 4 c_pair_row)) : Def Pg w K mg base "gone_through" 3 ["account", "manner"] (spV ⟨[], tb⟩ 2 (fnV 15 (f_gone_through c_along c_sum_of c_partners_of c_pair_row))) :=
  def_V (N := ["account", "manner", "sequence", "choice", "places", "walk", "left", "pairs", "met", "index", "others", "partners", "other", "entry", "much"]) T.d_gone_through sc_gone_through fun fa cdv A outer s H E hr =>
    (vb_cons (vs_asg (ve_var (i := 1) rfl) (vg_tup rfl (vgs_cons (vg_name (i := 2) sc_gone_through.nd rfl (hP := pl_not (by decide))) (vgs_cons (vg_name (i := 3) sc_gone_through.nd rfl (hP := pl_not (by decide))) vgs_nil))))
      (vb_cons (vs_set (i := 4) sc_gone_through.nd rfl (hP := pl_not (by decide)) (he := (ve_new (vf_call D_along (hr.mono (by decide)) (by rfl) (vm_cons (ve_var (i := 0) rfl) vm_nil)))))
      (vb_cons (vs_set (i := 5) sc_gone_through.nd rfl (hP := pl_not (by decide)) (he := (ve_if (vt_cmp (op_eqD hr.units) ov_eq (ve_var (i := 2) rfl) ve_str (nomark _)) (ve_var (i := 4) rfl) (ve_new (vf_callB (cr_sortA hr.units) ca_sortA (by rfl) T.z_sorted (by decide +kernel) (va_cons (ve_var (i := 4) rfl) va_nil))))))
      (vb_cons (vs_own (i := 6) sc_gone_through.nd rfl (hP := pl_not (by decide)) (he := (vf_lc rfl sc_gone_through.nd (vi_seq (ve_var (i := 0) rfl)) (blkOk_by (own := [("entry", 13)]) (N := ["account", "manner", "sequence", "choice", "places", "walk", "left", "pairs", "met", "index", "others", "partners", "other", "entry", "much"]) (sc := defScope s_gone_through) (by decide +kernel)) rfl (pl_all (by decide)) (by decide) (fun _ _ _ _ _ => (vg_name (i := 13) sc_gone_through.nd rfl (hP := pl_not (by decide)))) (fun _ _ _ _ _ => vts_nil) (fun _ _ _ _ _ => (ve_call D_sum_of (hr.mono (by decide)) (by rfl) (vm_cons (ve_var (i := 13) rfl) vm_nil))))))
      (vb_cons (vs_own (i := 7) sc_gone_through.nd rfl (hP := pl_not (by decide)) (he := (vf_lst va_nil)))
      (vb_cons (vs_newD (i := 8) false sc_gone_through.nd rfl (hP := pl_not (by decide)))
      (vb_cons (vs_for PassesOwn.never rfl (vi_seq (ve_var (i := 5) rfl)) (vg_name (i := 9) sc_gone_through.nd rfl (hP := pl_not (by decide))) (vb_cons (vs_setLc (i := 10) rfl sc_gone_through.nd rfl rfl (pl_not (by decide)) (sw_true rfl rfl rfl (by decide +kernel)) (vi_seq (ve_var (i := 4) rfl)) (blkOk_by (own := [("other", 12)]) (N := ["account", "manner", "sequence", "choice", "places", "walk", "left", "pairs", "met", "index", "others", "partners", "other", "entry", "much"]) (sc := defScope s_gone_through) (by decide +kernel)) rfl (pl_all (by decide)) (by decide) (fun _ _ _ _ _ => (vg_name (i := 12) sc_gone_through.nd rfl (hP := pl_not (by decide)))) (fun _ _ _ _ _ => (vts_one (vt_bop (vw_and (vt_inD (i := 8) hr.units rfl (hx := (ve_var (i := 12) rfl))) (vw_and1 (vt_cmp op_gt ov_gt (ve_get (i := 6) rfl (hx := (ve_var (i := 12) rfl)) (hs := by intro _ _; rfl)) ve_int (nomark _))))))) (fun _ _ _ _ _ => (ve_var (i := 12) rfl)))
      (vb_cons (vs_set (i := 11) sc_gone_through.nd rfl (hP := pl_not (by decide)) (he := (ve_call D_partners_of (hr.mono (by decide)) (by rfl) (vm_cons (ve_var (i := 0) rfl) (vm_cons (ve_var (i := 9) rfl) (vm_cons (ve_var (i := 10) rfl) (vm_own (i := 6) rfl (hr := (vm_cons (ve_var (i := 3) rfl) vm_nil)))))))))
      (vb_cons (vs_for PassesOwn.never rfl (vi_seq (ve_var (i := 11) rfl)) (vg_name (i := 12) sc_gone_through.nd rfl (hP := pl_not (by decide))) (vb_cons (vs_set (i := 14) sc_gone_through.nd rfl (hP := pl_not (by decide)) (he := (ve_callB (call_min2 rfl) ca_min2 (by rfl) T.z_min (by decide +kernel) (va_cons (ve_get (i := 6) rfl (hx := (ve_var (i := 9) rfl)) (hs := by intro _ _; rfl)) (va_cons (ve_get (i := 6) rfl (hx := (ve_var (i := 12) rfl)) (hs := by intro _ _; rfl)) va_nil)))))
      (vb_one (vs_if (vt_cmp op_gt ov_gt (ve_var (i := 14) rfl) ve_int (nomark _)) (vb_cons (vs_put (i := 6) rfl (hx := (ve_var (i := 9) rfl)) (he := (ve_op op_sub ov_sub (ve_get (i := 6) rfl (hx := (ve_var (i := 9) rfl)) (hs := by intro _ _; rfl)) (ve_var (i := 14) rfl))))
      (vb_cons (vs_put (i := 6) rfl (hx := (ve_var (i := 12) rfl)) (he := (ve_op op_sub ov_sub (ve_get (i := 6) rfl (hx := (ve_var (i := 12) rfl)) (hs := by intro _ _; rfl)) (ve_var (i := 14) rfl))))
      (vb_one (vs_append (i := 7) rfl (he := (ve_call D_pair_row (hr.mono (by decide)) (by rfl) (vm_cons (ve_var (i := 0) rfl) (vm_cons (ve_var (i := 9) rfl) (vm_cons (ve_var (i := 12) rfl) (vm_cons (ve_var (i := 14) rfl) vm_nil)))))))))) vb_nil))))
      (vb_one (vs_putD (i := 8) hr.units rfl (hx := (ve_var (i := 9) rfl)) (he := ve_bl)))))))
      (vb_one (vs_ret (ve_tup (va_cons (ve_var (i := 7) rfl) (va_cons (ve_var (i := 6) rfl) va_nil))))))))))))
def C_gone_through : FF := fnV 15 (f_gone_through C_along C_sum_of C_partners_of C_pair_row)
theorem dd_gone_through (T : Txt K mg base tb) : Def Pg w K mg base "gone_through" 3 ["account", "manner"] (spV ⟨[], tb⟩ 2 C_gone_through) := ok_gone_through T (dd_along T) (dd_sum_of T) (dd_partners_of T) (dd_pair_row T)
theorem sc__law_slips : FnScope ["jar", "many", "tops", "low", "span", "top", "mixed", "rows", "turn", "word", "slip"] ["jar", "many", "tops"] (defScope s__law_slips) := ⟨rfl, rfl, rfl, by decide +kernel, rfl, by decide +kernel, by decide +kernel⟩
def f__law_slips (c__law_frame : FF) (c__law_pick : FF) : FS := (sSeq (sAsg (eCallF [0] 1 c__law_frame (mOwn 0 mNil)) (gTp 2 (gsCons (gNm 3) (gsCons (gNm 4) gsNil))))
    (sSeq (sSet 5 (eOp gIx (eVar [0] 2) (eCallF [0] 2 c__law_pick (mOwn 0 (mCons (eCall gLen (aCons (eVar [0] 2) aNil)) mNil)))))
    (sSeq (sSet 6 (eOp gEq (eCallF [0] 2 c__law_pick (mOwn 0 (mCons (eC (.int 4)) mNil))) (eC (.int 1))))
    (sSeq (sOwn 7 (lLst aNil))
    (sSeq (sFor (iRange1 (aCons (eVar [0] 1) aNil)) (gNm 8) (sSeq (sSet 9 (eCallF [0] 2 c__law_pick (mOwn 0 (mCons (eC (.int 9)) mNil))))
    (sSeq (sIf (fTru (eVar [0] 6)) (sSet 5 (eOp gIx (eVar [0] 2) (eCallF [0] 2 c__law_pick (mOwn 0 (mCons (eCall gLen (aCons (eVar [0] 2) aNil)) mNil))))) sNil)
    (sSeq (sSet 10 (eTup (aCons (eOp gIx (eLst (aCons (eC (.str (Str.ofString "bill"))) (aCons (eC (.str (Str.ofString "pay"))) aNil))) (eOp gMod (eVar [0] 9) (eC (.int 2)))) (aCons (eOp gAdd (eVar [0] 3) (eCallF [0] 2 c__law_pick (mOwn 0 (mCons (eVar [0] 4) mNil)))) (aCons (eOp gAdd (eC (.int 1)) (eCallF [0] 2 c__law_pick (mOwn 0 (mCons (eVar [0] 5) mNil)))) aNil)))))
    (sSeq (sIf (fAnd (fBool (eOp gEq (eVar [0] 9) (eC (.int 8)))) (fBool (eOp gEq (eCallF [0] 2 c__law_pick (mOwn 0 (mCons (eC (.int 2)) mNil))) (eC (.int 1))))) (sSet 10 (eTup (aCons (eC (.str (Str.ofString "struck"))) aNil))) sNil)
    (sApp 7 (eVar [0] 10)))))))
    (sRetO [0] 7))))))
theorem ok__law_slips (T : Txt K mg base tb) {c__law_frame : FF} (D__law_frame : Def Pg w K mg base "_law_frame" 2 ["jar"] (spV ⟨[0], tb⟩ 1 c__law_frame)) {c__law_pick : FF} (D__law_pick : Def Pg w K mg base "_law_pick" 1 ["jar", "many"] (spV ⟨[0], tb⟩ 2 c__law_pick)) : Def Pg w K mg base "_law_slips" 3 ["jar", "many", "tops"] (spL ⟨[0], tb⟩ 3 (fnL 11 (f__law_slips c__law_frame c__law_pick))) :=
  def_L (N := ["jar", "many", "tops", "low", "span", "top", "mixed", "rows", "turn", "word", "slip"]) T.d__law_slips sc__law_slips fun fa cdv A outer s H E hr =>
    (vb_cons (vs_asg (ve_call D__law_frame (hr.mono (by decide)) (by rfl) (vm_own (i := 0) rfl (hr := vm_nil))) (vg_tup rfl (vgs_cons (vg_name (i := 3) sc__law_slips.nd rfl (hP := pl_not (by decide))) (vgs_cons (vg_name (i := 4) sc__law_slips.nd rfl (hP := pl_not (by decide))) vgs_nil))))
      (vb_cons (vs_set (i := 5) sc__law_slips.nd rfl (hP := pl_not (by decide)) (he := (ve_ix ix_seq ov_ix (ve_var (i := 2) rfl) (ve_call D__law_pick (hr.mono (by decide)) (by rfl) (vm_own (i := 0) rfl (hr := (vm_cons (ve_callB call_len ca_len (by rfl) T.z_len (by decide +kernel) (va_cons (ve_var (i := 2) rfl) va_nil)) vm_nil)))) (fun _ _ => rfl))))
      (vb_cons (vs_set (i := 6) sc__law_slips.nd rfl (hP := pl_not (by decide)) (he := (ve_cmp (op_eqD hr.units) ov_eq (ve_call D__law_pick (hr.mono (by decide)) (by rfl) (vm_own (i := 0) rfl (hr := (vm_cons ve_int vm_nil)))) ve_int (nomark _))))
      (vb_cons (vs_own (i := 7) sc__law_slips.nd rfl (hP := pl_not (by decide)) (he := (vf_lst va_nil)))
      (vb_cons (vs_for PassesOwn.never rfl (vi_range1 (by rfl) T.z_range (va_cons (ve_var (i := 1) rfl) va_nil)) (vg_name (i := 8) sc__law_slips.nd rfl (hP := pl_not (by decide))) (vb_cons (vs_set (i := 9) sc__law_slips.nd rfl (hP := pl_not (by decide)) (he := (ve_call D__law_pick (hr.mono (by decide)) (by rfl) (vm_own (i := 0) rfl (hr := (vm_cons ve_int vm_nil))))))
      (vb_cons (vs_if (vt_truth (ve_var (i := 6) rfl)) (vb_one (vs_set (i := 5) sc__law_slips.nd rfl (hP := pl_not (by decide)) (he := (ve_ix ix_seq ov_ix (ve_var (i := 2) rfl) (ve_call D__law_pick (hr.mono (by decide)) (by rfl) (vm_own (i := 0) rfl (hr := (vm_cons (ve_callB call_len ca_len (by rfl) T.z_len (by decide +kernel) (va_cons (ve_var (i := 2) rfl) va_nil)) vm_nil)))) (fun _ _ => rfl))))) vb_nil)
      (vb_cons (vs_set (i := 10) sc__law_slips.nd rfl (hP := pl_not (by decide)) (he := (ve_tup (va_cons (ve_ix ix_seq ov_ix (ve_lst (va_cons ve_str (va_cons ve_str va_nil))) (ve_op op_mod ov_mod (ve_var (i := 9) rfl) ve_int) (fun _ _ => rfl)) (va_cons (ve_op op_addAll ov_add (ve_var (i := 3) rfl) (ve_call D__law_pick (hr.mono (by decide)) (by rfl) (vm_own (i := 0) rfl (hr := (vm_cons (ve_var (i := 4) rfl) vm_nil))))) (va_cons (ve_op op_addAll ov_add ve_int (ve_call D__law_pick (hr.mono (by decide)) (by rfl) (vm_own (i := 0) rfl (hr := (vm_cons (ve_var (i := 5) rfl) vm_nil))))) va_nil))))))
      (vb_cons (vs_if (vt_bop (vw_and (vt_cmp (op_eqD hr.units) ov_eq (ve_var (i := 9) rfl) ve_int (nomark _)) (vw_and1 (vt_cmp (op_eqD hr.units) ov_eq (ve_call D__law_pick (hr.mono (by decide)) (by rfl) (vm_own (i := 0) rfl (hr := (vm_cons ve_int vm_nil)))) ve_int (nomark _))))) (vb_one (vs_set (i := 10) sc__law_slips.nd rfl (hP := pl_not (by decide)) (he := (ve_tup (va_cons ve_str va_nil))))) vb_nil)
      (vb_one (vs_append (i := 7) rfl (he := (ve_var (i := 10) rfl)))))))))
      (vb_one (vs_retO (i := 7) rfl)))))))
def C_slips : FFL := fnL 11 (f__law_slips C_frame C_pick)
theorem dd__law_slips (T : Txt K mg base tb) : Def Pg w K mg base "_law_slips" 3 ["jar", "many", "tops"] (spL ⟨[0], tb⟩ 3 C_slips) := ok__law_slips T (dd__law_frame T) (dd__law_pick T)
theorem sc_names_its_bill : FnScope ["entries", "entry"] ["entries", "entry"] (defScope s_names_its_bill) := ⟨rfl, rfl, rfl, by decide +kernel, rfl, by decide +kernel, by decide +kernel⟩
def f_names_its_bill (c_is_bill_index : FF) : FS := (sRet (eAnd (eCallF [] 2 c_is_bill_index (mCons (eVar [] 0) (mCons (eOp gIx (eVar [] 1) (eC (.int 3))) mNil))) (eOp gLe (eOp gIx (eOp gIx (eVar [] 0) (eOp gIx (eVar [] 1) (eC (.int 3)))) (eC (.int 1))) (eOp gIx (eVar [] 1) (eC (.int 1))))))
theorem ok_names_its_bill (T : Txt K mg base tb) {c_is_bill_index : FF} (D_is_bill_index : Def Pg w K mg base "is_bill_index" 3 ["entries", "value"] (spV ⟨[], tb⟩ 2 c_is_bill_index)) : Def Pg w K mg base "names_its_bill" 4 ["entries", "entry"] (spV ⟨[], tb⟩ 2 (fnV 2 (f_names_its_bill c_is_bill_index))) :=
  def_V (N := ["entries", "entry"]) T.d_names_its_bill sc_names_its_bill fun fa cdv A outer s H E hr =>
    (vb_one (vs_ret (ve_and (ve_call D_is_bill_index (hr.mono (by decide)) (by rfl) (vm_cons (ve_var (i := 0) rfl) (vm_cons (ve_ix ix_seq ov_ix (ve_var (i := 1) rfl) ve_int (fun _ _ => rfl)) vm_nil))) (ve_one (ve_cmp op_le ov_le (ve_ix ix_seq ov_ix (ve_ix ix_seq ov_ix (ve_var (i := 0) rfl) (ve_ix ix_seq ov_ix (ve_var (i := 1) rfl) ve_int (fun _ _ => rfl)) (fun _ _ => rfl)) ve_int (fun _ _ => rfl)) (ve_ix ix_seq ov_ix (ve_var (i := 1) rfl) ve_int (fun _ _ => rfl)) (nomark _))))))
def C_names_its_bill : FF := fnV 2 (f_names_its_bill C_is_bill_index)
theorem dd_names_its_bill (T : Txt K mg base tb) : Def Pg w K mg base "names_its_bill" 4 ["entries", "entry"] (spV ⟨[], tb⟩ 2 C_names_its_bill) := ok_names_its_bill T (dd_is_bill_index T)
theorem sc_laid_by : FnScope ["account", "manner", "pairs", "left"] ["account", "manner"] (defScope s_laid_by) := ⟨rfl, rfl, rfl, by decide +kernel, rfl, by decide +kernel, by decide +kernel⟩
def f_laid_by (c_gone_through : FF) : FS := (sSeq (sAsg (eCallF [] 2 c_gone_through (mCons (eVar [] 0) (mCons (eVar [] 1) mNil))) (gTp 2 (gsCons (gNm 2) (gsCons (gNm 3) gsNil))))
    (sRetF (lCall gSortA (aCons (eVar [] 2) aNil))))
theorem ok_laid_by (T : Txt K mg base tb) {c_gone_through : FF} (D_gone_through : Def Pg w K mg base "gone_through" 3 ["account", "manner"] (spV ⟨[], tb⟩ 2 c_gone_through)) : Def Pg w K mg base "laid_by" 4 ["account", "manner"] (spL ⟨[], tb⟩ 2 (fnL 4 (f_laid_by c_gone_through))) :=
  def_L (N := ["account", "manner", "pairs", "left"]) T.d_laid_by sc_laid_by fun fa cdv A outer s H E hr =>
    (vb_cons (vs_asg (ve_call D_gone_through (hr.mono (by decide)) (by rfl) (vm_cons (ve_var (i := 0) rfl) (vm_cons (ve_var (i := 1) rfl) vm_nil))) (vg_tup rfl (vgs_cons (vg_name (i := 2) sc_laid_by.nd rfl (hP := pl_not (by decide))) (vgs_cons (vg_name (i := 3) sc_laid_by.nd rfl (hP := pl_not (by decide))) vgs_nil))))
      (vb_one (vs_retF (vf_callB (cr_sortA hr.units) ca_sortA (by rfl) T.z_sorted (by decide +kernel) (va_cons (ve_var (i := 2) rfl) va_nil)))))
def C_laid_by : FFL := fnL 4 (f_laid_by C_gone_through)
theorem dd_laid_by (T : Txt K mg base tb) : Def Pg w K mg base "laid_by" 4 ["account", "manner"] (spL ⟨[], tb⟩ 2 C_laid_by) := ok_laid_by T (dd_gone_through T)
theorem sc__law_drawn : FnScope ["jar", "upto"] ["jar", "upto"] (defScope s__law_drawn) := ⟨rfl, rfl, rfl, by decide +kernel, rfl, by decide +kernel, by decide +kernel⟩
def f__law_drawn (c__law_named : FF) (c__law_slips : FFL) (c__law_many : FF) : FS := (sRet (eCallF [0] 2 c__law_named (mOwn 0 (mCons (eNew (lCallF [0] 3 c__law_slips (mOwn 0 (mCons (eCallF [0] 2 c__law_many (mOwn 0 (mCons (eVar [0] 1) mNil))) (mCons (eLst (aCons (eC (.int 1)) (aCons (eC (.int 3)) (aCons (eC (.int 12)) (aCons (eOp gSub (eOp gPow (eC (.int 10)) (eC (.int 30))) (eC (.int 1))) aNil))))) mNil))))) mNil))))
theorem ok__law_drawn (T : Txt K mg base tb) {c__law_named : FF} (D__law_named : Def Pg w K mg base "_law_named" 2 ["jar", "rows"] (spV ⟨[0], tb⟩ 2 c__law_named)) {c__law_slips : FFL} (D__law_slips : Def Pg w K mg base "_law_slips" 3 ["jar", "many", "tops"] (spL ⟨[0], tb⟩ 3 c__law_slips)) {c__law_many : FF} (D__law_many : Def Pg w K mg base "_law_many" 2 ["jar", "upto"] (spV ⟨[0], tb⟩ 2 c__law_many)) : Def Pg w K mg base "_law_drawn" 4 ["jar", "upto"] (spV ⟨[0], tb⟩ 2 (fnV 2 (f__law_drawn c__law_named c__law_slips c__law_many))) :=
  def_V (N := ["jar", "upto"]) T.d__law_drawn sc__law_drawn fun fa cdv A outer s H E hr =>
    (vb_one (vs_ret (ve_call D__law_named (hr.mono (by decide)) (by rfl) (vm_own (i := 0) rfl (hr := (vm_cons (ve_new (vf_call D__law_slips (hr.mono (by decide)) (by rfl) (vm_own (i := 0) rfl (hr := (vm_cons (ve_call D__law_many (hr.mono (by decide)) (by rfl) (vm_own (i := 0) rfl (hr := (vm_cons (ve_var (i := 1) rfl) vm_nil)))) (vm_cons (ve_lst (va_cons ve_int (va_cons ve_int (va_cons ve_int (va_cons (ve_op op_sub ov_sub (ve_op op_pow ov_pow ve_int ve_int) ve_int) va_nil))))) vm_nil)))))) vm_nil))))))
def C_drawn : FF := fnV 2 (f__law_drawn C_named C_slips C_many)
theorem dd__law_drawn (T : Txt K mg base tb) : Def Pg w K mg base "_law_drawn" 4 ["jar", "upto"] (spV ⟨[0], tb⟩ 2 C_drawn) := ok__law_drawn T (dd__law_named T) (dd__law_slips T) (dd__law_many T)
theorem sc__law_bare : FnScope ["jar", "upto"] ["jar", "upto"] (defScope s__law_bare) := ⟨rfl, rfl, rfl, by decide +kernel, rfl, by decide +kernel, by decide +kernel⟩
def f__law_bare (c__law_slips : FFL) (c__law_many : FF) : FS := (sRet (eCall gTupOf (aCons (eNew (lCallF [0] 3 c__law_slips (mOwn 0 (mCons (eCallF [0] 2 c__law_many (mOwn 0 (mCons (eVar [0] 1) mNil))) (mCons (eLst (aCons (eC (.int 1)) (aCons (eC (.int 3)) (aCons (eC (.int 12)) (aCons (eOp gSub (eOp gPow (eC (.int 10)) (eC (.int 30))) (eC (.int 1))) aNil))))) mNil))))) aNil)))
theorem ok__law_bare (T : Txt K mg base tb) {c__law_slips : FFL} (D__law_slips : Def Pg w K mg base "_law_slips" 3 ["jar", "many", "tops"] (spL ⟨[0], tb⟩ 3 c__law_slips)) {c__law_many : FF} (D__law_many : Def Pg w K mg base "_law_many" 2 ["jar", "upto"] (spV ⟨[0], tb⟩ 2 c__law_many)) : Def Pg w K mg base "_law_bare" 4 ["jar", "upto"] (spV ⟨[0], tb⟩ 2 (fnV 2 (f__law_bare c__law_slips c__law_many))) :=
  def_V (N := ["jar", "upto"]) T.d__law_bare sc__law_bare fun fa cdv A outer s H E hr =>
    (vb_one (vs_ret (ve_callTy call_tuple_of ca_tuple (by rfl) T.z_tuple (by decide +kernel) (va_cons (ve_new (vf_call D__law_slips (hr.mono (by decide)) (by rfl) (vm_own (i := 0) rfl (hr := (vm_cons (ve_call D__law_many (hr.mono (by decide)) (by rfl) (vm_own (i := 0) rfl (hr := (vm_cons (ve_var (i := 1) rfl) vm_nil)))) (vm_cons (ve_lst (va_cons ve_int (va_cons ve_int (va_cons ve_int (va_cons (ve_op op_sub ov_sub (ve_op op_pow ov_pow ve_int ve_int) ve_int) va_nil))))) vm_nil)))))) va_nil))))
def C_bare : FF := fnV 2 (f__law_bare C_slips C_many)
theorem dd__law_bare (T : Txt K mg base tb) : Def Pg w K mg base "_law_bare" 4 ["jar", "upto"] (spV ⟨[0], tb⟩ 2 C_bare) := ok__law_bare T (dd__law_slips T) (dd__law_many T)
theorem sc_fits_account : FnScope ["value", "entry"] ["value"] (defScope s_fits_account) := ⟨rfl, rfl, rfl, by decide +kernel, rfl, by decide +kernel, by decide +kernel⟩
def f_fits_account (c_has_entry_form : FF) (c_names_its_bill : FF) : FS := (sSeq (sIf (fOr (fBool (eTyp true "tuple" (eVar [] 0))) (fNot (fTru (eCall gAll (aCons (eNew (lComp (iItems (eVar [] 0)) (gNm 1) tYesV (eCallF [] 1 c_has_entry_form (mCons (eVar [] 1) mNil)) [1])) aNil))))) (sRet (eC (.bool false))) sNil)
    (sRet (eCall gAll (aCons (eNew (lComp (iItems (eVar [] 0)) (gNm 1) (fBool (eOp gEq (eOp gIx (eVar [] 1) (eC (.int 0))) (eC (.str (Str.ofString "named"))))) (eCallF [] 2 c_names_its_bill (mCons (eVar [] 0) (mCons (eVar [] 1) mNil))) [1])) aNil))))
theorem ok_fits_account (T : Txt K mg base tb) {c_has_entry_form : FF} (D_has_entry_form : Def Pg w K mg base "has_entry_form" 2 ["value"] (spV ⟨[], tb⟩ 1 c_has_entry_form)) {c_names_its_bill : FF} (D_names_its_bill : Def Pg w K mg base "names_its_bill" 4 ["entries", "entry"] (spV ⟨[], tb⟩ 2 c_names_its_bill)) : Def Pg w K mg base "fits_account" 5 ["value"] (spV ⟨[], tb⟩ 1 (fnV 2 (f_fits_account c_has_entry_form c_names_its_bill))) :=
  def_V (N := ["value", "entry"]) T.d_fits_account sc_fits_account fun fa cdv A outer s H E hr =>
    (vb_cons (vs_if (vt_bop (vw_or (vt_typNe (by decide) hr.units (by rfl) T.z_type (by rfl) T.z_tuple (by rfl) (ve_var (i := 0) rfl)) (vw_or1 (vt_not (vt_truth (ve_callB (cr_all rfl) ca_all (by rfl) T.z_all (by decide +kernel) (va_cons (ve_new (vf_lc rfl sc_fits_account.nd (vi_seq (ve_var (i := 0) rfl)) (blkOk_by (own := [("entry", 1)]) (N := ["value", "entry"]) (sc := defScope s_fits_account) (by decide +kernel)) rfl (pl_all (by decide)) (by decide) (fun _ _ _ _ _ => (vg_name (i := 1) sc_fits_account.nd rfl (hP := pl_not (by decide)))) (fun _ _ _ _ _ => vts_nil) (fun _ _ _ _ _ => (ve_call D_has_entry_form (hr.mono (by decide)) (by rfl) (vm_cons (ve_var (i := 1) rfl) vm_nil))))) va_nil))))))) (vb_one (vs_ret ve_bl)) vb_nil)
      (vb_one (vs_ret (ve_callB (cr_all rfl) ca_all (by rfl) T.z_all (by decide +kernel) (va_cons (ve_new (vf_lc rfl sc_fits_account.nd (vi_seq (ve_var (i := 0) rfl)) (blkOk_by (own := [("entry", 1)]) (N := ["value", "entry"]) (sc := defScope s_fits_account) (by decide +kernel)) rfl (pl_all (by decide)) (by decide) (fun _ _ _ _ _ => (vg_name (i := 1) sc_fits_account.nd rfl (hP := pl_not (by decide)))) (fun _ _ _ _ _ => (vts_one (vt_cmp (op_eqD hr.units) ov_eq (ve_ix ix_seq ov_ix (ve_var (i := 1) rfl) ve_int (fun _ _ => rfl)) ve_str (nomark _)))) (fun _ _ _ _ _ => (ve_call D_names_its_bill (hr.mono (by decide)) (by rfl) (vm_cons (ve_var (i := 0) rfl) (vm_cons (ve_var (i := 1) rfl) vm_nil)))))) va_nil)))))
def C_fits_account : FF := fnV 2 (f_fits_account C_has_entry_form C_names_its_bill)
theorem dd_fits_account (T : Txt K mg base tb) : Def Pg w K mg base "fits_account" 5 ["value"] (spV ⟨[], tb⟩ 1 C_fits_account) := ok_fits_account T (dd_has_entry_form T) (dd_names_its_bill T)
theorem sc_moved_rows : FnScope ["account", "other_account", "manner", "before", "after", "pairs", "rows", "bill", "payment", "much", "row"] ["account", "other_account", "manner"] (defScope s_moved_rows) := ⟨rfl, rfl, rfl, by decide +kernel, rfl, by decide +kernel, by decide +kernel⟩
def f_moved_rows (c_laid_by : FFL) : FS := (sSeq (sOwnD 3 (dCompT (iItems (eNew (lCallF [] 2 c_laid_by (mCons (eVar [] 0) (mCons (eVar [] 2) mNil))))) (gTp 3 (gsCons (gNm 7) (gsCons (gNm 8) (gsCons (gNm 9) gsNil)))) tYesV (eTup (aCons (eVar [] 7) (aCons (eVar [] 8) aNil))) (eVar [] 9) [7, 8, 9]))
    (sSeq (sOwnD 4 (dCompT (iItems (eNew (lCallF [] 2 c_laid_by (mCons (eVar [] 1) (mCons (eVar [] 2) mNil))))) (gTp 3 (gsCons (gNm 7) (gsCons (gNm 8) (gsCons (gNm 9) gsNil)))) tYesV (eTup (aCons (eVar [] 7) (aCons (eVar [] 8) aNil))) (eVar [] 9) [7, 8, 9]))
    (sSeq (sSet 5 (eNew (lSortSetT (eOp gAdd (eNew (lKeysT 3)) (eNew (lKeysT 4))))))
    (sSeq (sSet 6 (eNew (lComp (iItems (eVar [] 5)) (gTp 2 (gsCons (gNm 7) (gsCons (gNm 8) gsNil))) tYesV (eTup (aCons (eVar [] 7) (aCons (eVar [] 8) (aCons (eGetDf 3 (eTup (aCons (eVar [] 7) (aCons (eVar [] 8) aNil))) (eC (.int 0))) (aCons (eGetDf 4 (eTup (aCons (eVar [] 7) (aCons (eVar [] 8) aNil))) (eC (.int 0))) aNil))))) [7, 8])))
    (sRetF (lComp (iItems (eVar [] 6)) (gNm 10) (fBool (eOp gNe (eOp gIx (eVar [] 10) (eC (.int 2))) (eOp gIx (eVar [] 10) (eC (.int 3))))) (eVar [] 10) [10]))))))
theorem ok_moved_rows (T : Txt K mg base tb) {c_laid_by : FFL} (D_laid_by : Def Pg w K mg base "laid_by" 4 ["account", "manner"] (spL ⟨[], tb⟩ 2 c_laid_by)) : Def Pg w K mg base "moved_rows" 5 ["account", "other_account", "manner"] (spL ⟨[], tb⟩ 3 (fnL 11 (f_moved_rows c_laid_by))) :=
  def_L (N := ["account", "other_account", "manner", "before", "after", "pairs", "rows", "bill", "payment", "much", "row"]) T.d_moved_rows sc_moved_rows fun fa cdv A outer s H E hr =>
    (vb_cons (vs_ownD (i := 3) sc_moved_rows.nd rfl (hP := pl_not (by decide)) (he := (vd_dcT hr.units0 rfl sc_moved_rows.nd (vi_seq (ve_new (vf_call D_laid_by (hr.mono (by decide)) (by rfl) (vm_cons (ve_var (i := 0) rfl) (vm_cons (ve_var (i := 2) rfl) vm_nil))))) (blkOk_by (own := [("bill", 7), ("payment", 8), ("much", 9)]) (N := ["account", "other_account", "manner", "before", "after", "pairs", "rows", "bill", "payment", "much", "row"]) (sc := defScope s_moved_rows) (by decide +kernel)) rfl (pl_all (by decide)) (by decide) (fun _ _ _ _ _ => (vg_tup rfl (vgs_cons (vg_name (i := 7) sc_moved_rows.nd rfl (hP := pl_not (by decide))) (vgs_cons (vg_name (i := 8) sc_moved_rows.nd rfl (hP := pl_not (by decide))) (vgs_cons (vg_name (i := 9) sc_moved_rows.nd rfl (hP := pl_not (by decide))) vgs_nil))))) (fun _ _ _ _ _ => vts_nil) (fun _ _ _ _ _ => (ve_tup (va_cons (ve_var (i := 7) rfl) (va_cons (ve_var (i := 8) rfl) va_nil)))) (fun _ _ _ _ _ => (ve_var (i := 9) rfl)))))
      (vb_cons (vs_ownD (i := 4) sc_moved_rows.nd rfl (hP := pl_not (by decide)) (he := (vd_dcT hr.units0 rfl sc_moved_rows.nd (vi_seq (ve_new (vf_call D_laid_by (hr.mono (by decide)) (by rfl) (vm_cons (ve_var (i := 1) rfl) (vm_cons (ve_var (i := 2) rfl) vm_nil))))) (blkOk_by (own := [("bill", 7), ("payment", 8), ("much", 9)]) (N := ["account", "other_account", "manner", "before", "after", "pairs", "rows", "bill", "payment", "much", "row"]) (sc := defScope s_moved_rows) (by decide +kernel)) rfl (pl_all (by decide)) (by decide) (fun _ _ _ _ _ => (vg_tup rfl (vgs_cons (vg_name (i := 7) sc_moved_rows.nd rfl (hP := pl_not (by decide))) (vgs_cons (vg_name (i := 8) sc_moved_rows.nd rfl (hP := pl_not (by decide))) (vgs_cons (vg_name (i := 9) sc_moved_rows.nd rfl (hP := pl_not (by decide))) vgs_nil))))) (fun _ _ _ _ _ => vts_nil) (fun _ _ _ _ _ => (ve_tup (va_cons (ve_var (i := 7) rfl) (va_cons (ve_var (i := 8) rfl) va_nil)))) (fun _ _ _ _ _ => (ve_var (i := 9) rfl)))))
      (vb_cons (vs_set (i := 5) sc_moved_rows.nd rfl (hP := pl_not (by decide)) (he := (ve_new (vf_sortSetT rfl (Nat.lt_of_succ_lt (room65 hr)) (by rfl) T.z_sorted (by rfl) T.z_set (ve_op op_addAll ov_add (ve_new (vf_listDT (i := 3) rfl rfl (hg := by rfl) (hm := T.z_list))) (ve_new (vf_listDT (i := 4) rfl rfl (hg := by rfl) (hm := T.z_list))))))))
      (vb_cons (vs_setLc (i := 6) rfl sc_moved_rows.nd rfl rfl (pl_not (by decide)) (sw_true rfl rfl rfl (by decide +kernel)) (vi_seq (ve_var (i := 5) rfl)) (blkOk_by (own := [("bill", 7), ("payment", 8)]) (N := ["account", "other_account", "manner", "before", "after", "pairs", "rows", "bill", "payment", "much", "row"]) (sc := defScope s_moved_rows) (by decide +kernel)) rfl (pl_all (by decide)) (by decide) (fun _ _ _ _ _ => (vg_tup rfl (vgs_cons (vg_name (i := 7) sc_moved_rows.nd rfl (hP := pl_not (by decide))) (vgs_cons (vg_name (i := 8) sc_moved_rows.nd rfl (hP := pl_not (by decide))) vgs_nil)))) (fun _ _ _ _ _ => vts_nil) (fun _ _ _ _ _ => (ve_tup (va_cons (ve_var (i := 7) rfl) (va_cons (ve_var (i := 8) rfl) (va_cons (ve_getDf (i := 3) hr.units rfl (hx := (ve_tup (va_cons (ve_var (i := 7) rfl) (va_cons (ve_var (i := 8) rfl) va_nil)))) (hy := ve_int)) (va_cons (ve_getDf (i := 4) hr.units rfl (hx := (ve_tup (va_cons (ve_var (i := 7) rfl) (va_cons (ve_var (i := 8) rfl) va_nil)))) (hy := ve_int)) va_nil)))))))
      (vb_one (vs_retF (vf_lc rfl sc_moved_rows.nd (vi_seq (ve_var (i := 6) rfl)) (blkOk_by (own := [("row", 10)]) (N := ["account", "other_account", "manner", "before", "after", "pairs", "rows", "bill", "payment", "much", "row"]) (sc := defScope s_moved_rows) (by decide +kernel)) rfl (pl_all (by decide)) (by decide) (fun _ _ _ _ _ => (vg_name (i := 10) sc_moved_rows.nd rfl (hP := pl_not (by decide)))) (fun _ _ _ _ _ => (vts_one (vt_cmp (op_neD hr.units) ov_ne (ve_ix ix_seq ov_ix (ve_var (i := 10) rfl) ve_int (fun _ _ => rfl)) (ve_ix ix_seq ov_ix (ve_var (i := 10) rfl) ve_int (fun _ _ => rfl)) (nomark _)))) (fun _ _ _ _ _ => (ve_var (i := 10) rfl)))))))))
def C_moved_rows : FFL := fnL 11 (f_moved_rows C_laid_by)
theorem dd_moved_rows (T : Txt K mg base tb) : Def Pg w K mg base "moved_rows" 5 ["account", "other_account", "manner"] (spL ⟨[], tb⟩ 3 C_moved_rows) := ok_moved_rows T (dd_laid_by T)
theorem sc__law_beside : FnScope ["jar", "acct", "deed", "named", "spots", "spot", "slip", "at"] ["jar", "acct"] (defScope s__law_beside) := ⟨rfl, rfl, rfl, by decide +kernel, rfl, by decide +kernel, by decide +kernel⟩
def f__law_beside (c__law_pick : FF) (c__law_drawn : FF) (c__law_bare : FF) : FS := (sSeq (sSet 2 (eCallF [0] 2 c__law_pick (mOwn 0 (mCons (eC (.int 5)) mNil))))
    (sSeq (sSet 3 (eNew (lComp (iItems (eVar [0] 1)) (gNm 6) (fBool (eOp gEq (eOp gIx (eVar [0] 6) (eC (.int 0))) (eC (.str (Str.ofString "named"))))) (eOp gIx (eVar [0] 6) (eC (.int 3))) [6])))
    (sSeq (sSet 4 (eNew (lComp (iRange1 (aCons (eCall gLen (aCons (eVar [0] 1) aNil)) aNil)) (gNm 7) (fAnd (fBool (eOp (gInL true) (eVar [0] 7) (eVar [0] 3))) (fBool (eOp gNe (eOp gIx (eOp gIx (eVar [0] 1) (eVar [0] 7)) (eC (.int 0))) (eC (.str (Str.ofString "struck")))))) (eVar [0] 7) [7])))
    (sSeq (sIf (fBool (eOp gEq (eVar [0] 2) (eC (.int 0)))) (sRet (eCallF [0] 2 c__law_drawn (mOwn 0 (mCons (eC (.int 20)) mNil)))) sNil)
    (sSeq (sIf (fBool (eOp gEq (eVar [0] 2) (eC (.int 1)))) (sRet (eOp gAdd (eVar [0] 1) (eCallF [0] 2 c__law_bare (mOwn 0 (mCons (eC (.int 5)) mNil))))) sNil)
    (sSeq (sIf (fOr (fBool (eOp gEq (eVar [0] 4) (eLst aNil))) (fBool (eOp gEq (eVar [0] 2) (eC (.int 2))))) (sRet (eVar [0] 1)) sNil)
    (sSeq (sSet 5 (eOp gIx (eVar [0] 4) (eCallF [0] 2 c__law_pick (mOwn 0 (mCons (eCall gLen (aCons (eVar [0] 4) aNil)) mNil)))))
    (sSeq (sIf (fBool (eOp gEq (eVar [0] 2) (eC (.int 3)))) (sRet (eOp gAdd (eOp gAdd (eSl (eVar [0] 1) oNone (oSome (eVar [0] 5))) (eTup (aCons (eTup (aCons (eC (.str (Str.ofString "struck"))) aNil)) aNil))) (eSl (eVar [0] 1) (oSome (eOp gAdd (eVar [0] 5) (eC (.int 1)))) oNone))) sNil)
    (sSeq (sSet 6 (eOp gIx (eVar [0] 1) (eVar [0] 5)))
    (sSeq (sSet 6 (eOp gAdd (eTup (aCons (eOp gIx (eVar [0] 6) (eC (.int 0))) (aCons (eOp gIx (eVar [0] 6) (eC (.int 1))) (aCons (eOp gAdd (eC (.int 1)) (eCallF [0] 2 c__law_pick (mOwn 0 (mCons (eOp gPow (eC (.int 10)) (eC (.int 30))) mNil)))) aNil)))) (eSlA (eVar [0] 6) (oSome (eC (.int 3))) oNone)))
    (sRet (eOp gAdd (eOp gAdd (eSl (eVar [0] 1) oNone (oSome (eVar [0] 5))) (eTup (aCons (eVar [0] 6) aNil))) (eSl (eVar [0] 1) (oSome (eOp gAdd (eVar [0] 5) (eC (.int 1)))) oNone)))))))))))))
theorem ok__law_beside (T : Txt K mg base tb) {c__law_pick : FF} (D__law_pick : Def Pg w K mg base "_law_pick" 1 ["jar", "many"] (spV ⟨[0], tb⟩ 2 c__law_pick)) {c__law_drawn : FF} (D__law_drawn : Def Pg w K mg base "_law_drawn" 4 ["jar", "upto"] (spV ⟨[0], tb⟩ 2 c__law_drawn)) {c__law_bare : FF} (D__law_bare : Def Pg w K mg base "_law_bare" 4 ["jar", "upto"] (spV ⟨[0], tb⟩ 2 c__law_bare)) : Def Pg w K mg base "_law_beside" 5 ["jar", "acct"] (spV ⟨[0], tb⟩ 2 (fnV 8 (f__law_beside c__law_pick c__law_drawn c__law_bare))) :=
  def_V (N := ["jar", "acct", "deed", "named", "spots", "spot", "slip", "at"]) T.d__law_beside sc__law_beside fun fa cdv A outer s H E hr =>
    (vb_cons (vs_set (i := 2) sc__law_beside.nd rfl (hP := pl_not (by decide)) (he := (ve_call D__law_pick (hr.mono (by decide)) (by rfl) (vm_own (i := 0) rfl (hr := (vm_cons ve_int vm_nil))))))
      (vb_cons (vs_set (i := 3) sc__law_beside.nd rfl (hP := pl_not (by decide)) (he := (ve_new (vf_lc rfl sc__law_beside.nd (vi_seq (ve_var (i := 1) rfl)) (blkOk_by (own := [("slip", 6)]) (N := ["jar", "acct", "deed", "named", "spots", "spot", "slip", "at"]) (sc := defScope s__law_beside) (by decide +kernel)) rfl (pl_all (by decide)) (by decide) (fun _ _ _ _ _ => (vg_name (i := 6) sc__law_beside.nd rfl (hP := pl_not (by decide)))) (fun _ _ _ _ _ => (vts_one (vt_cmp (op_eqD hr.units) ov_eq (ve_ix ix_seq ov_ix (ve_var (i := 6) rfl) ve_int (fun _ _ => rfl)) ve_str (nomark _)))) (fun _ _ _ _ _ => (ve_ix ix_seq ov_ix (ve_var (i := 6) rfl) ve_int (fun _ _ => rfl)))))))
      (vb_cons (vs_setLc (i := 4) rfl sc__law_beside.nd rfl rfl (pl_not (by decide)) (sw_true rfl rfl rfl (by decide +kernel)) (vi_range1 (by rfl) T.z_range (va_cons (ve_callB call_len ca_len (by rfl) T.z_len (by decide +kernel) (va_cons (ve_var (i := 1) rfl) va_nil)) va_nil)) (blkOk_by (own := [("at", 7)]) (N := ["jar", "acct", "deed", "named", "spots", "spot", "slip", "at"]) (sc := defScope s__law_beside) (by decide +kernel)) rfl (pl_all (by decide)) (by decide) (fun _ _ _ _ _ => (vg_name (i := 7) sc__law_beside.nd rfl (hP := pl_not (by decide)))) (fun _ _ _ _ _ => (vts_one (vt_bop (vw_and (vt_cmp (op_notInD (room65 hr)) ov_notInL (ve_var (i := 7) rfl) (ve_var (i := 3) rfl) (by rfl)) (vw_and1 (vt_cmp (op_neD hr.units) ov_ne (ve_ix ix_seq ov_ix (ve_ix ix_seq ov_ix (ve_var (i := 1) rfl) (ve_var (i := 7) rfl) (fun _ _ => rfl)) ve_int (fun _ _ => rfl)) ve_str (nomark _))))))) (fun _ _ _ _ _ => (ve_var (i := 7) rfl)))
      (vb_cons (vs_if (vt_cmp (op_eqD hr.units) ov_eq (ve_var (i := 2) rfl) ve_int (nomark _)) (vb_one (vs_ret (ve_call D__law_drawn (hr.mono (by decide)) (by rfl) (vm_own (i := 0) rfl (hr := (vm_cons ve_int vm_nil)))))) vb_nil)
      (vb_cons (vs_if (vt_cmp (op_eqD hr.units) ov_eq (ve_var (i := 2) rfl) ve_int (nomark _)) (vb_one (vs_ret (ve_op op_addAll ov_add (ve_var (i := 1) rfl) (ve_call D__law_bare (hr.mono (by decide)) (by rfl) (vm_own (i := 0) rfl (hr := (vm_cons ve_int vm_nil))))))) vb_nil)
      (vb_cons (vs_if (vt_bop (vw_or (vt_cmp (op_eqD hr.units) ov_eq (ve_var (i := 4) rfl) (ve_lst va_nil) (nomark _)) (vw_or1 (vt_cmp (op_eqD hr.units) ov_eq (ve_var (i := 2) rfl) ve_int (nomark _))))) (vb_one (vs_ret (ve_var (i := 1) rfl))) vb_nil)
      (vb_cons (vs_set (i := 5) sc__law_beside.nd rfl (hP := pl_not (by decide)) (he := (ve_ix ix_seq ov_ix (ve_var (i := 4) rfl) (ve_call D__law_pick (hr.mono (by decide)) (by rfl) (vm_own (i := 0) rfl (hr := (vm_cons (ve_callB call_len ca_len (by rfl) T.z_len (by decide +kernel) (va_cons (ve_var (i := 4) rfl) va_nil)) vm_nil)))) (fun _ _ => rfl))))
      (vb_cons (vs_if (vt_cmp (op_eqD hr.units) ov_eq (ve_var (i := 2) rfl) ve_int (nomark _)) (vb_one (vs_ret (ve_op op_addAll ov_add (ve_op op_addAll ov_add (ve_slice (ve_var (i := 1) rfl) vo_none (vo_some (ve_var (i := 5) rfl))) (ve_tup (va_cons (ve_tup (va_cons ve_str va_nil)) va_nil))) (ve_slice (ve_var (i := 1) rfl) (vo_some (ve_op op_addAll ov_add (ve_var (i := 5) rfl) ve_int)) vo_none)))) vb_nil)
      (vb_cons (vs_set (i := 6) sc__law_beside.nd rfl (hP := pl_not (by decide)) (he := (ve_ix ix_seq ov_ix (ve_var (i := 1) rfl) (ve_var (i := 5) rfl) (fun _ _ => rfl))))
      (vb_cons (vs_set (i := 6) sc__law_beside.nd rfl (hP := pl_not (by decide)) (he := (ve_op op_addAll ov_add (ve_tup (va_cons (ve_ix ix_seq ov_ix (ve_var (i := 6) rfl) ve_int (fun _ _ => rfl)) (va_cons (ve_ix ix_seq ov_ix (ve_var (i := 6) rfl) ve_int (fun _ _ => rfl)) (va_cons (ve_op op_addAll ov_add ve_int (ve_call D__law_pick (hr.mono (by decide)) (by rfl) (vm_own (i := 0) rfl (hr := (vm_cons (ve_op op_pow ov_pow ve_int ve_int) vm_nil))))) va_nil)))) (ve_sliceA (ve_var (i := 6) rfl) (vo_some ve_int) vo_none))))
      (vb_one (vs_ret (ve_op op_addAll ov_add (ve_op op_addAll ov_add (ve_slice (ve_var (i := 1) rfl) vo_none (vo_some (ve_var (i := 5) rfl))) (ve_tup (va_cons (ve_var (i := 6) rfl) va_nil))) (ve_slice (ve_var (i := 1) rfl) (vo_some (ve_op op_addAll ov_add (ve_var (i := 5) rfl) ve_int)) vo_none))))))))))))))
def C_beside : FF := fnV 8 (f__law_beside C_pick C_drawn C_bare)
theorem dd__law_beside (T : Txt K mg base tb) : Def Pg w K mg base "_law_beside" 5 ["jar", "acct"] (spV ⟨[0], tb⟩ 2 C_beside) := ok__law_beside T (dd__law_pick T) (dd__law_drawn T) (dd__law_bare T)
theorem sc_check_account : FnScope ["account"] ["account"] (defScope s_check_account) := ⟨rfl, rfl, rfl, by decide +kernel, rfl, by decide +kernel, by decide +kernel⟩
def f_check_account (c_fits_account : FF) : FS := (sIf (fNot (fTru (eCallF [] 1 c_fits_account (mCons (eVar [] 0) mNil)))) sNever sNil)
theorem ok_check_account (T : Txt K mg base tb) {c_fits_account : FF} (D_fits_account : Def Pg w K mg base "fits_account" 5 ["value"] (spV ⟨[], tb⟩ 1 c_fits_account)) : Def Pg w K mg base "check_account" 6 ["account"] (spV ⟨[], tb⟩ 1 (fnV 1 (f_check_account c_fits_account))) :=
  def_V (N := ["account"]) T.d_check_account sc_check_account fun fa cdv A outer s H E hr =>
    (vb_one (vs_if (vt_not (vt_truth (ve_call D_fits_account (hr.mono (by decide)) (by rfl) (vm_cons (ve_var (i := 0) rfl) vm_nil)))) (vb_one vs_never) vb_nil))
def C_check_account : FF := fnV 1 (f_check_account C_fits_account)
theorem dd_check_account (T : Txt K mg base tb) : Def Pg w K mg base "check_account" 6 ["account"] (spV ⟨[], tb⟩ 1 C_check_account) := ok_check_account T (dd_fits_account T)
theorem sc_moved : FnScope ["account", "other_account", "manner"] ["account", "other_account", "manner"] (defScope s_moved) := ⟨rfl, rfl, rfl, by decide +kernel, rfl, by decide +kernel, by decide +kernel⟩
def f_moved (c_check_account : FF) (c_check_manner : FF) (c_moved_rows : FFL) : FS := (sSeq (sDrop (eCallF [] 1 c_check_account (mCons (eVar [] 0) mNil)))
    (sSeq (sDrop (eCallF [] 1 c_check_account (mCons (eVar [] 1) mNil)))
    (sSeq (sDrop (eCallF [] 1 c_check_manner (mCons (eVar [] 2) mNil)))
    (sRetF (lCallF [] 3 c_moved_rows (mCons (eVar [] 0) (mCons (eVar [] 1) (mCons (eVar [] 2) mNil))))))))
theorem ok_moved (T : Txt K mg base tb) {c_check_account : FF} (D_check_account : Def Pg w K mg base "check_account" 6 ["account"] (spV ⟨[], tb⟩ 1 c_check_account)) {c_check_manner : FF} (D_check_manner : Def Pg w K mg base "check_manner" 2 ["manner"] (spV ⟨[], tb⟩ 1 c_check_manner)) {c_moved_rows : FFL} (D_moved_rows : Def Pg w K mg base "moved_rows" 5 ["account", "other_account", "manner"] (spL ⟨[], tb⟩ 3 c_moved_rows)) : Def Pg w K mg base "moved" 7 ["account", "other_account", "manner"] (spL ⟨[], tb⟩ 3 (fnL 3 (f_moved c_check_account c_check_manner c_moved_rows))) :=
  def_L (N := ["account", "other_account", "manner"]) T.d_moved sc_moved fun fa cdv A outer s H E hr =>
    (vb_cons (vs_expr (ve_call D_check_account (hr.mono (by decide)) (by rfl) (vm_cons (ve_var (i := 0) rfl) vm_nil)))
      (vb_cons (vs_expr (ve_call D_check_account (hr.mono (by decide)) (by rfl) (vm_cons (ve_var (i := 1) rfl) vm_nil)))
      (vb_cons (vs_expr (ve_call D_check_manner (hr.mono (by decide)) (by rfl) (vm_cons (ve_var (i := 2) rfl) vm_nil)))
      (vb_one (vs_retF (vf_call D_moved_rows (hr.mono (by decide)) (by rfl) (vm_cons (ve_var (i := 0) rfl) (vm_cons (ve_var (i := 1) rfl) (vm_cons (ve_var (i := 2) rfl) vm_nil)))))))))
def C_moved : FFL := fnL 3 (f_moved C_check_account C_check_manner C_moved_rows)
theorem dd_moved (T : Txt K mg base tb) : Def Pg w K mg base "moved" 7 ["account", "other_account", "manner"] (spL ⟨[], tb⟩ 3 C_moved) := ok_moved T (dd_check_account T) (dd_check_manner T) (dd_moved_rows T)
theorem sc__law_like : FnScope ["found", "due", "one", "two"] ["found", "due"] (defScope s__law_like) := ⟨rfl, rfl, rfl, by decide +kernel, rfl, by decide +kernel, by decide +kernel⟩
def f__law_like (c__law_like : FF) (c__law_is_int : FF) : FS := (sSeq (sIf (fTru (eIsi2 "list" "tuple" (eVar [] 1))) (sSeq (sIf (fAnd (fTru (eIsi "list" (eVar [] 1))) (fNot (fTru (eIsi "list" (eVar [] 0))))) (sRet (eC (.bool false))) sNil)
    (sSeq (sIf (fAnd (fTru (eIsi "tuple" (eVar [] 1))) (fNot (fTru (eIsi "tuple" (eVar [] 0))))) (sRet (eC (.bool false))) sNil)
    (sRet (eAnd (eOp gEq (eCall gLen (aCons (eVar [] 0) aNil)) (eCall gLen (aCons (eVar [] 1) aNil))) (eCall gAll (aCons (eNew (lComp (iZipD (aCons (eVar [] 0) (aCons (eVar [] 1) aNil))) (gTp 2 (gsCons (gNm 2) (gsCons (gNm 3) gsNil))) tYesV (eCallF [] 2 c__law_like (mCons (eVar [] 2) (mCons (eVar [] 3) mNil))) [2, 3])) aNil)))))) sNil)
    (sSeq (sIf (fBool (eOp gIsA (eVar [] 1) (eC .none))) (sRet (eOp gIsA (eVar [] 0) (eC .none))) sNil)
    (sSeq (sIf (fTru (eIsi "bool" (eVar [] 1))) (sRet (eAnd (eIsi "bool" (eVar [] 0)) (eOp gEq (eVar [] 0) (eVar [] 1)))) sNil)
    (sSeq (sIf (fTru (eIsi "int" (eVar [] 1))) (sRet (eAnd (eCallF [] 1 c__law_is_int (mCons (eVar [] 0) mNil)) (eOp gEq (eVar [] 0) (eVar [] 1)))) sNil)
    (sRet (eAnd (eIsi "str" (eVar [] 0)) (eOp gEq (eVar [] 0) (eVar [] 1))))))))
theorem ok__law_like (T : Txt K mg base tb) {kk : Nat} (hk : 1 ≤ kk) {c__law_like : FF} (D__law_like : Def Pg w K mg base "_law_like" kk ["found", "due"] (spV ⟨[], tb⟩ 2 c__law_like)) {c__law_is_int : FF} (D__law_is_int : Def Pg w K mg base "_law_is_int" 1 ["thing"] (spV ⟨[], tb⟩ 1 c__law_is_int)) : Def Pg w K mg base "_law_like" (kk + 1) ["found", "due"] (spV ⟨[], tb⟩ 2 (fnV 4 (f__law_like c__law_like c__law_is_int))) :=
  def_V (N := ["found", "due", "one", "two"]) T.d__law_like sc__law_like fun fa cdv A outer s H E hr =>
    (vb_cons (vs_if (vt_truth (ve_isi2 (by decide) (by decide) (by rfl) T.z_isinstance (by rfl) T.z_list (by rfl) (by rfl) T.z_tuple (by rfl) (ve_var (i := 1) rfl))) (vb_cons (vs_if (vt_bop (vw_and (vt_truth (ve_isi (by decide) (by rfl) T.z_isinstance (by rfl) T.z_list (by rfl) (ve_var (i := 1) rfl))) (vw_and1 (vt_not (vt_truth (ve_isi (by decide) (by rfl) T.z_isinstance (by rfl) T.z_list (by rfl) (ve_var (i := 0) rfl))))))) (vb_one (vs_ret ve_bl)) vb_nil)
      (vb_cons (vs_if (vt_bop (vw_and (vt_truth (ve_isi (by decide) (by rfl) T.z_isinstance (by rfl) T.z_tuple (by rfl) (ve_var (i := 1) rfl))) (vw_and1 (vt_not (vt_truth (ve_isi (by decide) (by rfl) T.z_isinstance (by rfl) T.z_tuple (by rfl) (ve_var (i := 0) rfl))))))) (vb_one (vs_ret ve_bl)) vb_nil)
      (vb_one (vs_ret (ve_and (ve_cmp (op_eqD hr.units) ov_eq (ve_callB call_len ca_len (by rfl) T.z_len (by decide +kernel) (va_cons (ve_var (i := 0) rfl) va_nil)) (ve_callB call_len ca_len (by rfl) T.z_len (by decide +kernel) (va_cons (ve_var (i := 1) rfl) va_nil)) (nomark _)) (ve_one (ve_callB (cr_all rfl) ca_all (by rfl) T.z_all (by decide +kernel) (va_cons (ve_new (vf_lc rfl sc__law_like.nd (vi_zip (by rfl) T.z_zip (va_cons (ve_var (i := 0) rfl) (va_cons (ve_var (i := 1) rfl) va_nil))) (blkOk_by (own := [("one", 2), ("two", 3)]) (N := ["found", "due", "one", "two"]) (sc := defScope s__law_like) (by decide +kernel)) rfl (pl_all (by decide)) (by decide) (fun _ _ _ _ _ => (vg_tup rfl (vgs_cons (vg_name (i := 2) sc__law_like.nd rfl (hP := pl_not (by decide))) (vgs_cons (vg_name (i := 3) sc__law_like.nd rfl (hP := pl_not (by decide))) vgs_nil)))) (fun _ _ _ _ _ => vts_nil) (fun _ _ _ _ _ => (ve_call D__law_like (hr.mono (by omega)) (by rfl) (vm_cons (ve_var (i := 2) rfl) (vm_cons (ve_var (i := 3) rfl) vm_nil)))))) va_nil)))))))) vb_nil)
      (vb_cons (vs_if (vt_cmp op_isA ov_isA (ve_var (i := 1) rfl) ve_non (nomark _)) (vb_one (vs_ret (ve_cmp op_isA ov_isA (ve_var (i := 0) rfl) ve_non (nomark _)))) vb_nil)
      (vb_cons (vs_if (vt_truth (ve_isi (by decide) (by rfl) T.z_isinstance (by rfl) T.z_bool (by rfl) (ve_var (i := 1) rfl))) (vb_one (vs_ret (ve_and (ve_isi (by decide) (by rfl) T.z_isinstance (by rfl) T.z_bool (by rfl) (ve_var (i := 0) rfl)) (ve_one (ve_cmp (op_eqD hr.units) ov_eq (ve_var (i := 0) rfl) (ve_var (i := 1) rfl) (nomark _)))))) vb_nil)
      (vb_cons (vs_if (vt_truth (ve_isi (by decide) (by rfl) T.z_isinstance (by rfl) T.z_int (by rfl) (ve_var (i := 1) rfl))) (vb_one (vs_ret (ve_and (ve_call D__law_is_int (hr.mono (by omega)) (by rfl) (vm_cons (ve_var (i := 0) rfl) vm_nil)) (ve_one (ve_cmp (op_eqD hr.units) ov_eq (ve_var (i := 0) rfl) (ve_var (i := 1) rfl) (nomark _)))))) vb_nil)
      (vb_one (vs_ret (ve_and (ve_isi (by decide) (by rfl) T.z_isinstance (by rfl) T.z_str (by rfl) (ve_var (i := 0) rfl)) (ve_one (ve_cmp (op_eqD hr.units) ov_eq (ve_var (i := 0) rfl) (ve_var (i := 1) rfl) (nomark _))))))))))
def C_like : Nat → FF
  | 0 => fun _ => none
  | n + 1 => fnV 4 (f__law_like (C_like n) C_is_int)
theorem dr__law_like (T : Txt K mg base tb) : ∀ n, Def Pg w K mg base "_law_like" (1 + 1 + n) ["found", "due"] (spV ⟨[], tb⟩ 2 (C_like n))
  | 0 => def_never ⟨[], tb⟩ T.d__law_like sc__law_like
  | n + 1 => ok__law_like T (by omega) (dr__law_like T n) (dd__law_is_int T)
theorem dd__law_like (T : Txt K mg base tb) : Def Pg w K mg base "_law_like" 26 ["found", "due"] (spV ⟨[], tb⟩ 2 (C_like 20)) := (dr__law_like T 20).mono (by decide)
theorem sc_law : FnScope ["script", "great", "cell", "jar", "acct", "second", "way", "one", "two", "due", "found"] ["script"] (defScope s_law) := ⟨rfl, rfl, rfl, by decide +kernel, rfl, by decide +kernel, by decide +kernel⟩
def f_law (c__law_filled : FFL) (c__law_drawn : FF) (c__law_beside : FF) (c__law_drawn_way : FF) (c__law_sums_of : FFD) (c__law_lay : FFL) (c__law_due_moves : FFL) (c_moved : FFL) (c__law_like : FF) : FS := (sSeq (sSet 1 (eC (.int 20048491989748017551446101082105509808189484718010708759011152451498173371982939529240913595893)))
    (sSeq (sFor (iItems (eOp gAdd (eLst (aCons (eVar [] 1) aNil)) (eSl (eVar [] 0) oNone (oSome (eC (.int 5)))))) (gNm 2) (sSeq (sOwn 3 (lCallF [] 1 c__law_filled (mCons (eVar [] 2) mNil)))
    (sSeq (sSet 4 (eCallF [0] 2 c__law_drawn (mOwn 3 (mCons (eC (.int 20)) mNil))))
    (sSeq (sSet 5 (eCallF [0] 2 c__law_beside (mOwn 3 (mCons (eVar [] 4) mNil))))
    (sSeq (sSet 6 (eCallF [0] 1 c__law_drawn_way (mOwn 3 mNil)))
    (sSeq (sOwnD 7 (dCallF [] 1 c__law_sums_of (mCons (eNew (lCallF [] 2 c__law_lay (mCons (eVar [] 4) (mCons (eVar [] 6) mNil)))) mNil)))
    (sSeq (sOwnD 8 (dCallF [] 1 c__law_sums_of (mCons (eNew (lCallF [] 2 c__law_lay (mCons (eVar [] 5) (mCons (eVar [] 6) mNil)))) mNil)))
    (sSeq (sSet 9 (eNew (lCallF [0, 1] 2 c__law_due_moves (mOwn 7 (mOwn 8 mNil)))))
    (sSeq (sOwn 10 (lCallF [] 3 c_moved (mCons (eVar [] 4) (mCons (eVar [] 5) (mCons (eVar [] 6) mNil)))))
    (sSeq (sIf (fOr (fNot (fTru (eCallU 2 c__law_like (auEnd (ulCons (uVar 10) (ulCons (uVar 9) (fun _ => some []))))))) (fNot (fTru (eCallF [] 2 c__law_like (mCons (eNew (lCallF [] 3 c_moved (mCons (eVar [] 5) (mCons (eVar [] 4) (mCons (eVar [] 6) mNil))))) (mCons (eNew (lCallF [0, 1] 2 c__law_due_moves (mOwn 8 (mOwn 7 mNil)))) mNil)))))) (sRet (eC (.bool false))) sNil)
    (sSeq (sApp 10 (eTup (aCons (eC (.int 0)) (aCons (eC (.int 0)) (aCons (eC (.int 0)) (aCons (eC (.int 1)) aNil))))))
    (sSeq (sIf (fNot (fTru (eCallF [] 2 c__law_like (mCons (eNew (lCallF [] 3 c_moved (mPerm 3 [2, 1, 0] (mCons (eVar [] 6) (mCons (eVar [] 5) (mCons (eVar [] 4) mNil)))))) (mCons (eVar [] 9) mNil))))) (sRet (eC (.bool false))) sNil)
    (sIf (fOr (fBool (eOp gNe (eNew (lCallF [] 3 c_moved (mCons (eVar [] 4) (mCons (eVar [] 4) (mCons (eVar [] 6) mNil))))) (eLst aNil))) (fBool (eOp gNe (eNew (lCallF [] 3 c_moved (mCons (eVar [] 5) (mCons (eVar [] 5) (mCons (eVar [] 6) mNil))))) (eLst aNil)))) (sRet (eC (.bool false))) sNil)))))))))))))
    (sRet (eC (.bool true)))))
theorem ok_law (T : Txt K mg base tb) {c__law_filled : FFL} (D__law_filled : Def Pg w K mg base "_law_filled" 1 ["cell"] (spL ⟨[], tb⟩ 1 c__law_filled)) {c__law_drawn : FF} (D__law_drawn : Def Pg w K mg base "_law_drawn" 4 ["jar", "upto"] (spV ⟨[0], tb⟩ 2 c__law_drawn)) {c__law_beside : FF} (D__law_beside : Def Pg w K mg base "_law_beside" 5 ["jar", "acct"] (spV ⟨[0], tb⟩ 2 c__law_beside)) {c__law_drawn_way : FF} (D__law_drawn_way : Def Pg w K mg base "_law_drawn_way" 2 ["jar"] (spV ⟨[0], tb⟩ 1 c__law_drawn_way)) {c__law_sums_of : FFD} (D__law_sums_of : Def Pg w K mg base "_law_sums_of" 1 ["pairs"] (spD ⟨[], tb⟩ 1 c__law_sums_of)) {c__law_lay : FFL} (D__law_lay : Def Pg w K mg base "_law_lay" 2 ["acct", "way"] (spL ⟨[], tb⟩ 2 c__law_lay)) {c__law_due_moves : FFL} (D__law_due_moves : Def Pg w K mg base "_law_due_moves" 1 ["before", "behind"] (spL ⟨[0, 1], tb⟩ 2 c__law_due_moves)) {c_moved : FFL} (D_moved : Def Pg w K mg base "moved" 7 ["account", "other_account", "manner"] (spL ⟨[], tb⟩ 3 c_moved)) {c__law_like : FF} (D__law_like : Def Pg w K mg base "_law_like" 26 ["found", "due"] (spV ⟨[], tb⟩ 2 c__law_like)) : Def Pg w K mg base "law" 27 ["script"] (spV ⟨[], tb⟩ 1 (fnV 11 (f_law c__law_filled c__law_drawn c__law_beside c__law_drawn_way c__law_sums_of c__law_lay c__law_due_moves c_moved c__law_like))) :=
  def_V (N := ["script", "great", "cell", "jar", "acct", "second", "way", "one", "two", "due", "found"]) T.d_law sc_law fun fa cdv A outer s H E hr =>
    (vb_cons (vs_set (i := 1) sc_law.nd rfl (hP := pl_not (by decide)) (he := ve_int))
      (vb_cons (vs_for PassesOwn.never rfl (vi_seq (ve_op op_addAll ov_add (ve_lst (va_cons (ve_var (i := 1) rfl) va_nil)) (ve_slice (ve_var (i := 0) rfl) vo_none (vo_some ve_int)))) (vg_name (i := 2) sc_law.nd rfl (hP := pl_not (by decide))) (vb_cons (vs_own (i := 3) sc_law.nd rfl (hP := pl_not (by decide)) (he := (vf_call D__law_filled (hr.mono (by decide)) (by rfl) (vm_cons (ve_var (i := 2) rfl) vm_nil))))
      (vb_cons (vs_set (i := 4) sc_law.nd rfl (hP := pl_not (by decide)) (he := (ve_call D__law_drawn (hr.mono (by decide)) (by rfl) (vm_own (i := 3) rfl (hr := (vm_cons ve_int vm_nil))))))
      (vb_cons (vs_set (i := 5) sc_law.nd rfl (hP := pl_not (by decide)) (he := (ve_call D__law_beside (hr.mono (by decide)) (by rfl) (vm_own (i := 3) rfl (hr := (vm_cons (ve_var (i := 4) rfl) vm_nil))))))
      (vb_cons (vs_set (i := 6) sc_law.nd rfl (hP := pl_not (by decide)) (he := (ve_call D__law_drawn_way (hr.mono (by decide)) (by rfl) (vm_own (i := 3) rfl (hr := vm_nil)))))
      (vb_cons (vs_ownD (i := 7) sc_law.nd rfl (hP := pl_not (by decide)) (he := (vd_call D__law_sums_of (hr.mono (by decide)) (by rfl) (vm_cons (ve_new (vf_call D__law_lay (hr.mono (by decide)) (by rfl) (vm_cons (ve_var (i := 4) rfl) (vm_cons (ve_var (i := 6) rfl) vm_nil)))) vm_nil))))
      (vb_cons (vs_ownD (i := 8) sc_law.nd rfl (hP := pl_not (by decide)) (he := (vd_call D__law_sums_of (hr.mono (by decide)) (by rfl) (vm_cons (ve_new (vf_call D__law_lay (hr.mono (by decide)) (by rfl) (vm_cons (ve_var (i := 5) rfl) (vm_cons (ve_var (i := 6) rfl) vm_nil)))) vm_nil))))
      (vb_cons (vs_set (i := 9) sc_law.nd rfl (hP := pl_not (by decide)) (he := (ve_new (vf_call D__law_due_moves (hr.mono (by decide)) (by rfl) (vm_own (i := 7) rfl (hr := (vm_own (i := 8) rfl (hr := vm_nil))))))))
      (vb_cons (vs_own (i := 10) sc_law.nd rfl (hP := pl_not (by decide)) (he := (vf_call D_moved (hr.mono (by decide)) (by rfl) (vm_cons (ve_var (i := 4) rfl) (vm_cons (ve_var (i := 5) rfl) (vm_cons (ve_var (i := 6) rfl) vm_nil))))))
      (vb_cons (vs_if (vt_bop (vw_or (vt_not (vt_truth (ve_callU D__law_like (hr.mono (by decide)) (by rfl) (vau_end (vul_cons (vu_var (i := 10) rfl) (vul_cons (vu_var (i := 9) rfl) vul_nil)))))) (vw_or1 (vt_not (vt_truth (ve_call D__law_like (hr.mono (by decide)) (by rfl) (vm_cons (ve_new (vf_call D_moved (hr.mono (by decide)) (by rfl) (vm_cons (ve_var (i := 5) rfl) (vm_cons (ve_var (i := 4) rfl) (vm_cons (ve_var (i := 6) rfl) vm_nil))))) (vm_cons (ve_new (vf_call D__law_due_moves (hr.mono (by decide)) (by rfl) (vm_own (i := 8) rfl (hr := (vm_own (i := 7) rfl (hr := vm_nil)))))) vm_nil)))))))) (vb_one (vs_ret ve_bl)) vb_nil)
      (vb_cons (vs_append (i := 10) rfl (he := (ve_tup (va_cons ve_int (va_cons ve_int (va_cons ve_int (va_cons ve_int va_nil)))))))
      (vb_cons (vs_if (vt_not (vt_truth (ve_call D__law_like (hr.mono (by decide)) (by rfl) (vm_cons (ve_new (vf_callKw D_moved T.k_moved_manner_other_account_account (hr.mono (by decide)) (by rfl) (vk_cons (ve_var (i := 6) rfl) (vk_cons (ve_var (i := 5) rfl) (vk_cons (ve_var (i := 4) rfl) vk_nil))))) (vm_cons (ve_var (i := 9) rfl) vm_nil))))) (vb_one (vs_ret ve_bl)) vb_nil)
      (vb_one (vs_if (vt_bop (vw_or (vt_cmp (op_neD hr.units) ov_ne (ve_new (vf_call D_moved (hr.mono (by decide)) (by rfl) (vm_cons (ve_var (i := 4) rfl) (vm_cons (ve_var (i := 4) rfl) (vm_cons (ve_var (i := 6) rfl) vm_nil))))) (ve_lst va_nil) (nomark _)) (vw_or1 (vt_cmp (op_neD hr.units) ov_ne (ve_new (vf_call D_moved (hr.mono (by decide)) (by rfl) (vm_cons (ve_var (i := 5) rfl) (vm_cons (ve_var (i := 5) rfl) (vm_cons (ve_var (i := 6) rfl) vm_nil))))) (ve_lst va_nil) (nomark _))))) (vb_one (vs_ret ve_bl)) vb_nil))))))))))))))
      (vb_one (vs_ret ve_bl))))
def C_law : FF := fnV 11 (f_law C_filled C_drawn C_beside C_drawn_way C_sums_of C_lay C_due_moves C_moved (C_like 20))
theorem dd_law (T : Txt K mg base tb) : Def Pg w K mg base "law" 27 ["script"] (spV ⟨[], tb⟩ 1 C_law) := ok_law T (dd__law_filled T) (dd__law_drawn T) (dd__law_beside T) (dd__law_drawn_way T) (dd__law_sums_of T) (dd__law_lay T) (dd__law_due_moves T) (dd_moved T) (dd__law_like T)
end
/-! the head's facts -/
theorem bd_is_integer (kV doc pm : Value) (an : Option Addr) (cdv ct : Value) : ∀ us : List Value, us.length = (["value"] : List Str).length → bindArgs (PySem.W.fnOf "is_integer" "is_integer" (defArgs s_is_integer) (defBody s_is_integer) (defScope s_is_integer) .none kV doc pm an cdv ct) ⟨us, []⟩ = pure ((["value"] : List Str).zip us) := fun us hl => match us, hl with | [_], _ => rfl
theorem bd_is_sum (kV doc pm : Value) (an : Option Addr) (cdv ct : Value) : ∀ us : List Value, us.length = (["value"] : List Str).length → bindArgs (PySem.W.fnOf "is_sum" "is_sum" (defArgs s_is_sum) (defBody s_is_sum) (defScope s_is_sum) .none kV doc pm an cdv ct) ⟨us, []⟩ = pure ((["value"] : List Str).zip us) := fun us hl => match us, hl with | [_], _ => rfl
theorem bd_has_entry_form (kV doc pm : Value) (an : Option Addr) (cdv ct : Value) : ∀ us : List Value, us.length = (["value"] : List Str).length → bindArgs (PySem.W.fnOf "has_entry_form" "has_entry_form" (defArgs s_has_entry_form) (defBody s_has_entry_form) (defScope s_has_entry_form) .none kV doc pm an cdv ct) ⟨us, []⟩ = pure ((["value"] : List Str).zip us) := fun us hl => match us, hl with | [_], _ => rfl
theorem bd_names_its_bill (kV doc pm : Value) (an : Option Addr) (cdv ct : Value) : ∀ us : List Value, us.length = (["entries", "entry"] : List Str).length → bindArgs (PySem.W.fnOf "names_its_bill" "names_its_bill" (defArgs s_names_its_bill) (defBody s_names_its_bill) (defScope s_names_its_bill) .none kV doc pm an cdv ct) ⟨us, []⟩ = pure ((["entries", "entry"] : List Str).zip us) := fun us hl => match us, hl with | [_, _], _ => rfl
theorem bd_fits_account (kV doc pm : Value) (an : Option Addr) (cdv ct : Value) : ∀ us : List Value, us.length = (["value"] : List Str).length → bindArgs (PySem.W.fnOf "fits_account" "fits_account" (defArgs s_fits_account) (defBody s_fits_account) (defScope s_fits_account) .none kV doc pm an cdv ct) ⟨us, []⟩ = pure ((["value"] : List Str).zip us) := fun us hl => match us, hl with | [_], _ => rfl
theorem bd_fits_manner (kV doc pm : Value) (an : Option Addr) (cdv ct : Value) : ∀ us : List Value, us.length = (["value"] : List Str).length → bindArgs (PySem.W.fnOf "fits_manner" "fits_manner" (defArgs s_fits_manner) (defBody s_fits_manner) (defScope s_fits_manner) .none kV doc pm an cdv ct) ⟨us, []⟩ = pure ((["value"] : List Str).zip us) := fun us hl => match us, hl with | [_], _ => rfl
theorem bd_is_index (kV doc pm : Value) (an : Option Addr) (cdv ct : Value) : ∀ us : List Value, us.length = (["entries", "value"] : List Str).length → bindArgs (PySem.W.fnOf "is_index" "is_index" (defArgs s_is_index) (defBody s_is_index) (defScope s_is_index) .none kV doc pm an cdv ct) ⟨us, []⟩ = pure ((["entries", "value"] : List Str).zip us) := fun us hl => match us, hl with | [_, _], _ => rfl
theorem bd_is_bill_index (kV doc pm : Value) (an : Option Addr) (cdv ct : Value) : ∀ us : List Value, us.length = (["entries", "value"] : List Str).length → bindArgs (PySem.W.fnOf "is_bill_index" "is_bill_index" (defArgs s_is_bill_index) (defBody s_is_bill_index) (defScope s_is_bill_index) .none kV doc pm an cdv ct) ⟨us, []⟩ = pure ((["entries", "value"] : List Str).zip us) := fun us hl => match us, hl with | [_, _], _ => rfl
theorem bd_sum_of (kV doc pm : Value) (an : Option Addr) (cdv ct : Value) : ∀ us : List Value, us.length = (["entry"] : List Str).length → bindArgs (PySem.W.fnOf "sum_of" "sum_of" (defArgs s_sum_of) (defBody s_sum_of) (defScope s_sum_of) .none kV doc pm an cdv ct) ⟨us, []⟩ = pure ((["entry"] : List Str).zip us) := fun us hl => match us, hl with | [_], _ => rfl
theorem bd_check_account (kV doc pm : Value) (an : Option Addr) (cdv ct : Value) : ∀ us : List Value, us.length = (["account"] : List Str).length → bindArgs (PySem.W.fnOf "check_account" "check_account" (defArgs s_check_account) (defBody s_check_account) (defScope s_check_account) .none kV doc pm an cdv ct) ⟨us, []⟩ = pure ((["account"] : List Str).zip us) := fun us hl => match us, hl with | [_], _ => rfl
theorem bd_check_manner (kV doc pm : Value) (an : Option Addr) (cdv ct : Value) : ∀ us : List Value, us.length = (["manner"] : List Str).length → bindArgs (PySem.W.fnOf "check_manner" "check_manner" (defArgs s_check_manner) (defBody s_check_manner) (defScope s_check_manner) .none kV doc pm an cdv ct) ⟨us, []⟩ = pure ((["manner"] : List Str).zip us) := fun us hl => match us, hl with | [_], _ => rfl
theorem bd_along (kV doc pm : Value) (an : Option Addr) (cdv ct : Value) : ∀ us : List Value, us.length = (["account"] : List Str).length → bindArgs (PySem.W.fnOf "along" "along" (defArgs s_along) (defBody s_along) (defScope s_along) .none kV doc pm an cdv ct) ⟨us, []⟩ = pure ((["account"] : List Str).zip us) := fun us hl => match us, hl with | [_], _ => rfl
theorem bd_laid_by (kV doc pm : Value) (an : Option Addr) (cdv ct : Value) : ∀ us : List Value, us.length = (["account", "manner"] : List Str).length → bindArgs (PySem.W.fnOf "laid_by" "laid_by" (defArgs s_laid_by) (defBody s_laid_by) (defScope s_laid_by) .none kV doc pm an cdv ct) ⟨us, []⟩ = pure ((["account", "manner"] : List Str).zip us) := fun us hl => match us, hl with | [_, _], _ => rfl
theorem bd_gone_through (kV doc pm : Value) (an : Option Addr) (cdv ct : Value) : ∀ us : List Value, us.length = (["account", "manner"] : List Str).length → bindArgs (PySem.W.fnOf "gone_through" "gone_through" (defArgs s_gone_through) (defBody s_gone_through) (defScope s_gone_through) .none kV doc pm an cdv ct) ⟨us, []⟩ = pure ((["account", "manner"] : List Str).zip us) := fun us hl => match us, hl with | [_, _], _ => rfl
theorem bd_partners_of (kV doc pm : Value) (an : Option Addr) (cdv ct : Value) : ∀ us : List Value, us.length = (["account", "index", "others", "left", "choice"] : List Str).length → bindArgs (PySem.W.fnOf "partners_of" "partners_of" (defArgs s_partners_of) (defBody s_partners_of) (defScope s_partners_of) .none kV doc pm an cdv ct) ⟨us, []⟩ = pure ((["account", "index", "others", "left", "choice"] : List Str).zip us) := fun us hl => match us, hl with | [_, _, _, _, _], _ => rfl
theorem bd_ranked (kV doc pm : Value) (an : Option Addr) (cdv ct : Value) : ∀ us : List Value, us.length = (["bills", "left", "choice"] : List Str).length → bindArgs (PySem.W.fnOf "ranked" "ranked" (defArgs s_ranked) (defBody s_ranked) (defScope s_ranked) .none kV doc pm an cdv ct) ⟨us, []⟩ = pure ((["bills", "left", "choice"] : List Str).zip us) := fun us hl => match us, hl with | [_, _, _], _ => rfl
theorem bd_pair_row (kV doc pm : Value) (an : Option Addr) (cdv ct : Value) : ∀ us : List Value, us.length = (["account", "index", "other", "much"] : List Str).length → bindArgs (PySem.W.fnOf "pair_row" "pair_row" (defArgs s_pair_row) (defBody s_pair_row) (defScope s_pair_row) .none kV doc pm an cdv ct) ⟨us, []⟩ = pure ((["account", "index", "other", "much"] : List Str).zip us) := fun us hl => match us, hl with | [_, _, _, _], _ => rfl
theorem bd_moved (kV doc pm : Value) (an : Option Addr) (cdv ct : Value) : ∀ us : List Value, us.length = (["account", "other_account", "manner"] : List Str).length → bindArgs (PySem.W.fnOf "moved" "moved" (defArgs s_moved) (defBody s_moved) (defScope s_moved) .none kV doc pm an cdv ct) ⟨us, []⟩ = pure ((["account", "other_account", "manner"] : List Str).zip us) := fun us hl => match us, hl with | [_, _, _], _ => rfl
theorem bd_moved_rows (kV doc pm : Value) (an : Option Addr) (cdv ct : Value) : ∀ us : List Value, us.length = (["account", "other_account", "manner"] : List Str).length → bindArgs (PySem.W.fnOf "moved_rows" "moved_rows" (defArgs s_moved_rows) (defBody s_moved_rows) (defScope s_moved_rows) .none kV doc pm an cdv ct) ⟨us, []⟩ = pure ((["account", "other_account", "manner"] : List Str).zip us) := fun us hl => match us, hl with | [_, _, _], _ => rfl
theorem bd__law_filled (kV doc pm : Value) (an : Option Addr) (cdv ct : Value) : ∀ us : List Value, us.length = (["cell"] : List Str).length → bindArgs (PySem.W.fnOf "_law_filled" "_law_filled" (defArgs s__law_filled) (defBody s__law_filled) (defScope s__law_filled) .none kV doc pm an cdv ct) ⟨us, []⟩ = pure ((["cell"] : List Str).zip us) := fun us hl => match us, hl with | [_], _ => rfl
theorem bd__law_pick (kV doc pm : Value) (an : Option Addr) (cdv ct : Value) : ∀ us : List Value, us.length = (["jar", "many"] : List Str).length → bindArgs (PySem.W.fnOf "_law_pick" "_law_pick" (defArgs s__law_pick) (defBody s__law_pick) (defScope s__law_pick) .none kV doc pm an cdv ct) ⟨us, []⟩ = pure ((["jar", "many"] : List Str).zip us) := fun us hl => match us, hl with | [_, _], _ => rfl
theorem bd__law_is_int (kV doc pm : Value) (an : Option Addr) (cdv ct : Value) : ∀ us : List Value, us.length = (["thing"] : List Str).length → bindArgs (PySem.W.fnOf "_law_is_int" "_law_is_int" (defArgs s__law_is_int) (defBody s__law_is_int) (defScope s__law_is_int) .none kV doc pm an cdv ct) ⟨us, []⟩ = pure ((["thing"] : List Str).zip us) := fun us hl => match us, hl with | [_], _ => rfl
theorem bd__law_like (kV doc pm : Value) (an : Option Addr) (cdv ct : Value) : ∀ us : List Value, us.length = (["found", "due"] : List Str).length → bindArgs (PySem.W.fnOf "_law_like" "_law_like" (defArgs s__law_like) (defBody s__law_like) (defScope s__law_like) .none kV doc pm an cdv ct) ⟨us, []⟩ = pure ((["found", "due"] : List Str).zip us) := fun us hl => match us, hl with | [_, _], _ => rfl
theorem bd__law_frame (kV doc pm : Value) (an : Option Addr) (cdv ct : Value) : ∀ us : List Value, us.length = (["jar"] : List Str).length → bindArgs (PySem.W.fnOf "_law_frame" "_law_frame" (defArgs s__law_frame) (defBody s__law_frame) (defScope s__law_frame) .none kV doc pm an cdv ct) ⟨us, []⟩ = pure ((["jar"] : List Str).zip us) := fun us hl => match us, hl with | [_], _ => rfl
theorem bd__law_slips (kV doc pm : Value) (an : Option Addr) (cdv ct : Value) : ∀ us : List Value, us.length = (["jar", "many", "tops"] : List Str).length → bindArgs (PySem.W.fnOf "_law_slips" "_law_slips" (defArgs s__law_slips) (defBody s__law_slips) (defScope s__law_slips) .none kV doc pm an cdv ct) ⟨us, []⟩ = pure ((["jar", "many", "tops"] : List Str).zip us) := fun us hl => match us, hl with | [_, _, _], _ => rfl
theorem bd__law_named (kV doc pm : Value) (an : Option Addr) (cdv ct : Value) : ∀ us : List Value, us.length = (["jar", "rows"] : List Str).length → bindArgs (PySem.W.fnOf "_law_named" "_law_named" (defArgs s__law_named) (defBody s__law_named) (defScope s__law_named) .none kV doc pm an cdv ct) ⟨us, []⟩ = pure ((["jar", "rows"] : List Str).zip us) := fun us hl => match us, hl with | [_, _], _ => rfl
theorem bd__law_many (kV doc pm : Value) (an : Option Addr) (cdv ct : Value) : ∀ us : List Value, us.length = (["jar", "upto"] : List Str).length → bindArgs (PySem.W.fnOf "_law_many" "_law_many" (defArgs s__law_many) (defBody s__law_many) (defScope s__law_many) .none kV doc pm an cdv ct) ⟨us, []⟩ = pure ((["jar", "upto"] : List Str).zip us) := fun us hl => match us, hl with | [_, _], _ => rfl
theorem bd__law_drawn (kV doc pm : Value) (an : Option Addr) (cdv ct : Value) : ∀ us : List Value, us.length = (["jar", "upto"] : List Str).length → bindArgs (PySem.W.fnOf "_law_drawn" "_law_drawn" (defArgs s__law_drawn) (defBody s__law_drawn) (defScope s__law_drawn) .none kV doc pm an cdv ct) ⟨us, []⟩ = pure ((["jar", "upto"] : List Str).zip us) := fun us hl => match us, hl with | [_, _], _ => rfl
theorem bd__law_bare (kV doc pm : Value) (an : Option Addr) (cdv ct : Value) : ∀ us : List Value, us.length = (["jar", "upto"] : List Str).length → bindArgs (PySem.W.fnOf "_law_bare" "_law_bare" (defArgs s__law_bare) (defBody s__law_bare) (defScope s__law_bare) .none kV doc pm an cdv ct) ⟨us, []⟩ = pure ((["jar", "upto"] : List Str).zip us) := fun us hl => match us, hl with | [_, _], _ => rfl
theorem bd__law_drawn_way (kV doc pm : Value) (an : Option Addr) (cdv ct : Value) : ∀ us : List Value, us.length = (["jar"] : List Str).length → bindArgs (PySem.W.fnOf "_law_drawn_way" "_law_drawn_way" (defArgs s__law_drawn_way) (defBody s__law_drawn_way) (defScope s__law_drawn_way) .none kV doc pm an cdv ct) ⟨us, []⟩ = pure ((["jar"] : List Str).zip us) := fun us hl => match us, hl with | [_], _ => rfl
theorem bd__law_along (kV doc pm : Value) (an : Option Addr) (cdv ct : Value) : ∀ us : List Value, us.length = (["acct"] : List Str).length → bindArgs (PySem.W.fnOf "_law_along" "_law_along" (defArgs s__law_along) (defBody s__law_along) (defScope s__law_along) .none kV doc pm an cdv ct) ⟨us, []⟩ = pure ((["acct"] : List Str).zip us) := fun us hl => match us, hl with | [_], _ => rfl
theorem bd__law_mate (kV doc pm : Value) (an : Option Addr) (cdv ct : Value) : ∀ us : List Value, us.length = (["acct", "along_v", "left", "spot", "rule"] : List Str).length → bindArgs (PySem.W.fnOf "_law_mate" "_law_mate" (defArgs s__law_mate) (defBody s__law_mate) (defScope s__law_mate) .none kV doc pm an cdv ct) ⟨us, []⟩ = pure ((["acct", "along_v", "left", "spot", "rule"] : List Str).zip us) := fun us hl => match us, hl with | [_, _, _, _, _], _ => rfl
theorem bd__law_lay (kV doc pm : Value) (an : Option Addr) (cdv ct : Value) : ∀ us : List Value, us.length = (["acct", "way"] : List Str).length → bindArgs (PySem.W.fnOf "_law_lay" "_law_lay" (defArgs s__law_lay) (defBody s__law_lay) (defScope s__law_lay) .none kV doc pm an cdv ct) ⟨us, []⟩ = pure ((["acct", "way"] : List Str).zip us) := fun us hl => match us, hl with | [_, _], _ => rfl
theorem bd__law_sums_of (kV doc pm : Value) (an : Option Addr) (cdv ct : Value) : ∀ us : List Value, us.length = (["pairs"] : List Str).length → bindArgs (PySem.W.fnOf "_law_sums_of" "_law_sums_of" (defArgs s__law_sums_of) (defBody s__law_sums_of) (defScope s__law_sums_of) .none kV doc pm an cdv ct) ⟨us, []⟩ = pure ((["pairs"] : List Str).zip us) := fun us hl => match us, hl with | [_], _ => rfl
theorem bd__law_beside (kV doc pm : Value) (an : Option Addr) (cdv ct : Value) : ∀ us : List Value, us.length = (["jar", "acct"] : List Str).length → bindArgs (PySem.W.fnOf "_law_beside" "_law_beside" (defArgs s__law_beside) (defBody s__law_beside) (defScope s__law_beside) .none kV doc pm an cdv ct) ⟨us, []⟩ = pure ((["jar", "acct"] : List Str).zip us) := fun us hl => match us, hl with | [_, _], _ => rfl
theorem bd__law_due_moves (kV doc pm : Value) (an : Option Addr) (cdv ct : Value) : ∀ us : List Value, us.length = (["before", "behind"] : List Str).length → bindArgs (PySem.W.fnOf "_law_due_moves" "_law_due_moves" (defArgs s__law_due_moves) (defBody s__law_due_moves) (defScope s__law_due_moves) .none kV doc pm an cdv ct) ⟨us, []⟩ = pure ((["before", "behind"] : List Str).zip us) := fun us hl => match us, hl with | [_, _], _ => rfl
theorem bd_law (kV doc pm : Value) (an : Option Addr) (cdv ct : Value) : ∀ us : List Value, us.length = (["script"] : List Str).length → bindArgs (PySem.W.fnOf "law" "law" (defArgs s_law) (defBody s_law) (defScope s_law) .none kV doc pm an cdv ct) ⟨us, []⟩ = pure ((["script"] : List Str).zip us) := fun us hl => match us, hl with | [_], _ => rfl
theorem bk_moved_manner_other_account_account (kV doc pm : Value) (an : Option Addr) (cdv ct : Value) : ∀ ws : List Value, ws.length = (["manner", "other_account", "account"] : List Str).length → bindArgs (PySem.W.fnOf "moved" "moved" (defArgs s_moved) (defBody s_moved) (defScope s_moved) .none kV doc pm an cdv ct) ⟨[], (["manner", "other_account", "account"] : List Str).zip ws⟩ = pure ((["account", "other_account", "manner"] : List Str).zip (permL [2, 1, 0] ws)) := fun ws hl => match ws, hl with | [_, _, _], _ => rfl
end G

namespace VL
/-! ### the order of choice: pure -/
/-- what stands at a place -/
def lvN (ls : List Int) (k : Nat) : Int := ls.getD k 0
inductive Ch where
  | oldest | newest | greatest | least
def upN (ls : List Int) : Nat → Nat → Bool := fun a b => decide (lvN ls b ≤ lvN ls a)
def dnN (ls : List Int) : Nat → Nat → Bool := fun a b => decide (lvN ls a ≤ lvN ls b)
def rankN (ch : Ch) (ls : List Int) (C : List Nat) : List Nat := match ch with
  | .oldest => C
  | .newest => C.reverse
  | .greatest => C.mergeSort (upN ls)
  | .least => C.mergeSort (dnN ls)
/-- the one that the law takes of those that are left, in the line's sequence -/
def maxN (ls : List Int) (M : List Nat) : Option Int := VL.greatI (M.map (lvN ls))
def minN (ls : List Int) (M : List Nat) : Option Int := VL.leastI (M.map (lvN ls))
def pickN (ch : Ch) (ls : List Int) (M : List Nat) : Option Nat := match ch with
  | .oldest => M.head?
  | .newest => M.getLast?
  | .greatest => (M.filter fun o => decide (some (lvN ls o) = maxN ls M)).head?
  | .least => (M.filter fun o => decide (some (lvN ls o) = minN ls M)).head?
theorem filter_sub {R C : List Nat} (h : R.Sublist C) (nd : C.Nodup) : C.filter (fun o => decide (o ∈ R)) = R := by
  induction h with
  | slnil => rfl
  | cons a h ih =>
    rename_i R C
    have n := List.nodup_cons.mp nd
    rw [List.filter_cons, ih n.2, if_neg]
    simp only [decide_eq_true_eq]
    exact fun z => n.1 (h.subset z)
  | cons_cons a h ih =>
    rename_i R C
    have n := List.nodup_cons.mp nd
    rw [List.filter_cons, if_pos (by simp)]
    congr 1
    rw [← ih n.2]
    refine List.filter_congr fun x hx => ?_
    have : x ≠ a := fun z => n.1 (by rw [← z]; exact hx)
    rw [ih n.2]
    simp [this]
theorem two_no {α : Type} {x y : α} {l : List α} (nd : l.Nodup) (h1 : [x, y].Sublist l) (h2 : [y, x].Sublist l) : False := by
  induction l with
  | nil => cases h1
  | cons a l ih =>
    have n := List.nodup_cons.mp nd
    cases h1 with
    | cons _ h1 =>
      cases h2 with
      | cons _ h2 => exact ih n.2 h1 h2
      | cons_cons _ h2 => exact n.1 (h1.subset (by simp))
    | cons_cons _ h1 =>
      cases h2 with
      | cons _ h2 => exact n.1 (h2.subset (by simp))
      | cons_cons _ h2 => exact n.1 (h1.subset (by simp))
theorem greatI_is {ns : List Int} {m : Int} (hm : m ∈ ns) (h : ∀ y ∈ ns, y ≤ m) : greatI ns = some m := by
  cases ns with
  | nil => cases hm
  | cons n ns =>
    have := great_of (ns := n :: ns) (z := ns.foldl max n) rfl hm h
    rw [this]
    rfl
theorem leastI_is {ns : List Int} {m : Int} (hm : m ∈ ns) (h : ∀ y ∈ ns, m ≤ y) : leastI ns = some m := by
  cases ns with
  | nil => cases hm
  | cons n ns =>
    have := least_of (ns := n :: ns) (z := ns.foldl min n) rfl hm h
    rw [this]
    rfl
/-- the first of those that no one is better than, where R is a part of what sorting gives -/
theorem first_sort {le : Nat → Nat → Bool} (tr : ∀ a b c, le a b = true → le b c = true → le a c = true) (tot : ∀ a b, (le a b || le b a) = true) {C R : List Nat} {h : Nat} (nd : C.Nodup) (hs : (h :: R).Sublist (C.mergeSort le)) {c : Nat → Bool}
    (hh : c h = true) (hc : ∀ x ∈ R, c x = true → le x h = true) : ((C.filter fun o => decide (o ∈ h :: R)).filter c).head? = some h := by
  have ndS : (C.mergeSort le).Nodup := (List.mergeSort_perm C le).nodup_iff.mpr nd
  have hC : h ∈ C := (List.mergeSort_perm C le).mem_iff.mp (hs.subset (by simp))
  have hm : h ∈ ((C.filter fun o => decide (o ∈ h :: R)).filter c) := by simp [List.mem_filter, hC, hh]
  obtain ⟨x, e⟩ : ∃ x, ((C.filter fun o => decide (o ∈ h :: R)).filter c).head? = some x := by
    cases e : ((C.filter fun o => decide (o ∈ h :: R)).filter c) with
    | nil =>
      rw [e] at hm
      cases hm
    | cons x r => exact ⟨x, rfl⟩
  rw [e]
  by_cases hx : x = h
  · rw [hx]
  · exfalso
    obtain ⟨r, er⟩ : ∃ r, ((C.filter fun o => decide (o ∈ h :: R)).filter c) = x :: r := by
      cases e2 : ((C.filter fun o => decide (o ∈ h :: R)).filter c) with
      | nil => rw [e2] at e; cases e
      | cons y r =>
        rw [e2] at e
        cases e
        exact ⟨r, rfl⟩
    have hxm : x ∈ ((C.filter fun o => decide (o ∈ h :: R)).filter c) := by
      rw [er]
      simp
    have hcx := (List.mem_filter.mp hxm).2
    have hxR : x ∈ R := by
      have := of_decide_eq_true (List.mem_filter.mp (List.mem_filter.mp hxm).1).2
      rcases List.mem_cons.mp this with z | z
      · exact absurd z hx
      · exact z
    have hr : h ∈ r := by
      rw [er] at hm
      rcases List.mem_cons.mp hm with z | z
      · exact absurd z.symm hx
      · exact z
    have s1 : [x, h].Sublist C := by
      have a : [x, h].Sublist (x :: r) := (List.singleton_sublist.mpr hr).cons_cons x
      rw [← er] at a
      exact a.trans (List.filter_sublist.trans List.filter_sublist)
    have s2 := List.pair_sublist_mergeSort (le := le) tr tot (hc x hxR hcx) s1
    have s3 : [h, x].Sublist (C.mergeSort le) := ((List.singleton_sublist.mpr hxR).cons_cons h).trans hs
    exact two_no ndS s2 s3
theorem pick_head {ch : Ch} {l0 ls : List Int} {C R : List Nat} (nd : C.Nodup) (hs : R.Sublist (rankN ch l0 C)) (he : ∀ o ∈ R, lvN ls o = lvN l0 o) : pickN ch ls (C.filter fun o => decide (o ∈ R)) = R.head? := by
  cases ch with
  | oldest =>
    show (C.filter fun o => decide (o ∈ R)).head? = _
    rw [filter_sub (C := C) hs nd]
  | newest =>
    have h2 : R.reverse.Sublist C := by
      have := hs.reverse
      rwa [show (rankN .newest l0 C).reverse = C from List.reverse_reverse C] at this
    have h3 := filter_sub h2 nd
    simp only [List.mem_reverse] at h3
    show (C.filter fun o => decide (o ∈ R)).getLast? = _
    rw [h3, List.getLast?_reverse]
  | greatest =>
    cases R with
    | nil =>
      show ((C.filter fun o => decide (o ∈ [])).filter _).head? = none
      simp
    | cons h R =>
      have hs : (h :: R).Sublist (C.mergeSort (upN l0)) := hs
      have tr : ∀ a b c, upN l0 a b = true → upN l0 b c = true → upN l0 a c = true := fun a b c h1 h2 => decide_eq_true (Int.le_trans (of_decide_eq_true h2) (of_decide_eq_true h1))
      have tot : ∀ a b, (upN l0 a b || upN l0 b a) = true := fun a b => by
        rcases Int.le_total (lvN l0 a) (lvN l0 b) with z | z <;> simp [upN, z]
      have pw := (List.pairwise_mergeSort tr tot C).sublist hs
      have hle : ∀ x ∈ R, lvN l0 x ≤ lvN l0 h := fun x hx => of_decide_eq_true (List.rel_of_pairwise_cons pw hx)
      have hC : h ∈ C := (List.mergeSort_perm C _).mem_iff.mp (hs.subset (by simp))
      have hmx : maxN ls (C.filter fun o => decide (o ∈ h :: R)) = some (lvN ls h) := greatI_is (List.mem_map.mpr ⟨h, by simp [List.mem_filter, hC], rfl⟩) fun y hy => by
        obtain ⟨x, hx, rfl⟩ := List.mem_map.mp hy
        have hx := of_decide_eq_true (List.mem_filter.mp hx).2
        rw [he x hx, he h (by simp)]
        rcases List.mem_cons.mp hx with rfl | hx
        · exact Int.le_refl _
        · exact hle x hx
      show ((C.filter fun o => decide (o ∈ h :: R)).filter _).head? = some h
      rw [hmx]
      refine first_sort tr tot nd hs (by simp) fun x hx hc => ?_
      have hc : lvN ls x = lvN ls h := Option.some.inj (of_decide_eq_true hc)
      rw [he x (by simp [hx]), he h (by simp)] at hc
      exact decide_eq_true (by rw [hc]; exact Int.le_refl _)
  | least =>
    cases R with
    | nil =>
      show ((C.filter fun o => decide (o ∈ [])).filter _).head? = none
      simp
    | cons h R =>
      have hs : (h :: R).Sublist (C.mergeSort (dnN l0)) := hs
      have tr : ∀ a b c, dnN l0 a b = true → dnN l0 b c = true → dnN l0 a c = true := fun a b c h1 h2 => decide_eq_true (Int.le_trans (of_decide_eq_true h1) (of_decide_eq_true h2))
      have tot : ∀ a b, (dnN l0 a b || dnN l0 b a) = true := fun a b => by
        rcases Int.le_total (lvN l0 a) (lvN l0 b) with z | z <;> simp [dnN, z]
      have pw := (List.pairwise_mergeSort tr tot C).sublist hs
      have hle : ∀ x ∈ R, lvN l0 h ≤ lvN l0 x := fun x hx => of_decide_eq_true (List.rel_of_pairwise_cons pw hx)
      have hC : h ∈ C := (List.mergeSort_perm C _).mem_iff.mp (hs.subset (by simp))
      have hmx : minN ls (C.filter fun o => decide (o ∈ h :: R)) = some (lvN ls h) := leastI_is (List.mem_map.mpr ⟨h, by simp [List.mem_filter, hC], rfl⟩) fun y hy => by
        obtain ⟨x, hx, rfl⟩ := List.mem_map.mp hy
        have hx := of_decide_eq_true (List.mem_filter.mp hx).2
        rw [he x hx, he h (by simp)]
        rcases List.mem_cons.mp hx with rfl | hx
        · exact Int.le_refl _
        · exact hle x hx
      show ((C.filter fun o => decide (o ∈ h :: R)).filter _).head? = some h
      rw [hmx]
      refine first_sort tr tot nd hs (by simp) fun x hx hc => ?_
      have hc : lvN ls x = lvN ls h := Option.some.inj (of_decide_eq_true hc)
      rw [he x (by simp [hx]), he h (by simp)] at hc
      exact decide_eq_true (by rw [hc]; exact Int.le_refl _)
end VL

namespace VL
open PySem PySem.Spec PyProof.Rows L2 G
theorem log2_of {n k : Nat} (h : n < 2 ^ k) (hk : 0 < k) : n.log2 < k := by
  by_cases h0 : n = 0
  · subst h0
    simpa using hk
  · exact (Nat.log2_lt h0).mpr h
theorem mul_ok {i j : Int} {a b : Nat} (hi : i.natAbs < 2 ^ a) (hj : j.natAbs < 2 ^ b) (ha : 0 < a) (hb : 0 < b) (h : a + b ≤ 1000000) : decide (i.natAbs.log2 + j.natAbs.log2 < 1000000) = true := by
  have h1 := log2_of hi ha
  have h2 := log2_of hj hb
  exact decide_eq_true (by omega)
theorem mul_lt {i j : Int} {a b : Nat} (hi : i.natAbs < 2 ^ a) (hj : j.natAbs < 2 ^ b) : (i * j).natAbs < 2 ^ (a + b) := by
  rw [Int.natAbs_mul, Nat.pow_add]
  exact Nat.mul_lt_mul'' hi hj
/-- the jar behind at most n looks -/
def JB (n : Nat) (js : List D) : Prop := ∃ a b c : Int, js = [.int a, .int b, .int c] ∧ 0 ≤ b ∧ b ≤ n ∧ 0 ≤ c ∧ c < 2147483629
theorem s_filled (c : Int) : O2 (C_filled [.va (.int c)]) fun ds en => en = [.va (.int c)] ∧ JB 0 ds := by
  refine w_fnL 1 ?_
  try simp only [List.length_cons, List.length_nil, Nat.reduceAdd, Nat.reduceSub, List.replicate_succ, List.replicate_zero, List.cons_append, List.nil_append]
  unfold f__law_filled
  refine st_ ?_
  refine ⟨rfl, _, _, _, rfl, by decide, by decide, Int.emod_nonneg _ (by decide), Int.emod_lt_of_pos _ (by decide)⟩
theorem s_pick {n : Nat} {js : List D} {m : Int} (hj : JB n js) (hn : n ≤ 1000000000) (h1 : 1 ≤ m) (h2 : m < 10 ^ 40) :
    O2 (C_pick [.ow js, .va (.int m)]) fun d en => ∃ r js' s, d = .int r ∧ en = .ow js' :: s ∧ JB (n + 1) js' ∧ 0 ≤ r ∧ r < m := by
  obtain ⟨a, b, c, rfl, hb0, hb, hc0, hc⟩ := hj
  have hm : m.natAbs.log2 < 1920 := by
    refine log2_of (Nat.lt_of_lt_of_le (show m.natAbs < 10 ^ 40 by omega) (by decide +kernel)) (by decide)
  refine w_fn 6 ?_
  try simp only [List.length_cons, List.length_nil, Nat.reduceAdd, Nat.reduceSub, List.replicate_succ, List.replicate_zero, List.cons_append, List.nil_append]
  unfold f__law_pick
  refine st_ ?_
  refine ⟨fun ha => ?_, fun ha => ?_⟩
  · refine st_ ?_
    refine w_ii (decide_eq_true ⟨by omega, by omega⟩) ?_
    refine st_ ?_
    refine w_ii (decide_eq_true (by omega)) ?_
    refine st_ ?_
    exact ⟨_, _, _, rfl, rfl, ⟨_, _, _, rfl, by omega, by omega, hc0, hc⟩, Int.emod_nonneg _ (by omega), Int.emod_lt_of_pos _ (by omega)⟩
  · refine st_ ?_
    refine O1.of (x := gStr _) (if_pos hm) ?_
    have hl := PyProof.Rows.int_text_len_1921 hm
    refine st_ ?_
    refine O1.of (x := gLen _) (if_pos (Nat.le_trans hl (by decide))) ?_
    refine st_ ?_
    have hq : (1 + ((Str.ofString (toString m)).length : Int) / 8) ≤ 300 ∧ 0 ≤ ((Str.ofString (toString m)).length : Int) / 8 := by omega
    generalize ((Str.ofString (toString m)).length : Int) / 8 = q at hq
    refine ⟨⟨by omega, by omega⟩, ?_⟩
    refine w_forD (fun i en => ∃ (f : Int) (s3 s5 : Sl), en = [.ow [.int a, .int (b + 1), .int c], .va (.int m), .va (.int f), s3, .un, s5] ∧ 0 ≤ f ∧ f.natAbs < 2 ^ (28 * (i + 1))) _ 0 _ ⟨0, _, _, rfl, by decide, by decide⟩ (fun i t en et hI => ?_) fun en hI => ?_
    · obtain ⟨f, s3, s5, rfl, hf0, hf⟩ := hI
      have ht : t < (1 + q).toNat := by
        have := (List.getElem?_eq_some_iff.mp et).1
        have e2 := (List.getElem?_eq_some_iff.mp et).2
        rw [List.length_range] at this
        rw [List.getElem_range] at e2
        omega
      have hi : i < 300 := by
        have := (List.getElem?_eq_some_iff.mp et).1
        rw [List.length_range] at this
        omega
      have ht0 : 0 + (t : Int) ≤ 300 := by omega
      have ht1 : 0 ≤ 0 + (t : Int) := by omega
      generalize 0 + (t : Int) = tt at ht0 ht1
      refine w_turn ?_
      refine st_ ?_
      try simp only [List.set_cons_zero, List.set_cons_succ, List.map_cons, List.map_nil, mdSl, putBack, wipeE, permL, List.filterMap_cons, List.filterMap_nil, List.getElem?_cons_zero, List.getElem?_cons_succ]
      refine w_ii (mul_ok (a := 13) (b := 32) (by decide) (by omega) (by decide) (by decide) (by decide)) ?_
      refine st_ ?_
      refine w_ii (mul_ok (a := 45) (b := 32) (mul_lt (a := 13) (b := 32) (by decide) (by omega)) (by omega) (by decide) (by decide) (by decide)) ?_
      refine st_ ?_
      refine w_ii (mul_ok (a := 13) (b := 32) (by decide) (by omega) (by decide) (by decide) (by decide)) ?_
      refine st_ ?_
      have g1 := Int.emod_nonneg (c + 7919 * (b + 1) * (b + 1) + 31 * tt + 1) (show (2147483629 : Int) ≠ 0 by decide)
      have g2 := Int.emod_lt_of_pos (c + 7919 * (b + 1) * (b + 1) + 31 * tt + 1) (show (0 : Int) < 2147483629 by decide)
      generalize (c + 7919 * (b + 1) * (b + 1) + 31 * tt + 1) % 2147483629 = u at g1 g2
      try simp only [List.set_cons_zero, List.set_cons_succ, List.map_cons, List.map_nil, mdSl, putBack, wipeE, permL, List.filterMap_cons, List.filterMap_nil, List.getElem?_cons_zero, List.getElem?_cons_succ]
      refine w_ii (mul_ok (a := 32) (b := 32) (by omega) (by omega) (by decide) (by decide) (by decide)) ?_
      refine st_ ?_
      refine w_ii (mul_ok (a := 16) (b := 32) (by decide) (by omega) (by decide) (by decide) (by decide)) ?_
      refine st_ ?_
      have g3 := Int.emod_nonneg (u * u + 48271 * (b + 1) + tt) (show (2147483647 : Int) ≠ 0 by decide)
      have g4 := Int.emod_lt_of_pos (u * u + 48271 * (b + 1) + tt) (show (0 : Int) < 2147483647 by decide)
      generalize (u * u + 48271 * (b + 1) + tt) % 2147483647 = u2 at g3 g4
      try simp only [List.set_cons_zero, List.set_cons_succ, List.map_cons, List.map_nil, mdSl, putBack, wipeE, permL, List.filterMap_cons, List.filterMap_nil, List.getElem?_cons_zero, List.getElem?_cons_succ]
      refine w_ii (mul_ok (a := 32) (b := 32) (by omega) (by omega) (by decide) (by decide) (by decide)) ?_
      refine st_ ?_
      have g5 := Int.emod_nonneg (u2 * u2) (show (2147483587 : Int) ≠ 0 by decide)
      have g6 := Int.emod_lt_of_pos (u2 * u2) (show (0 : Int) < 2147483587 by decide)
      generalize (u2 * u2) % 2147483587 = u3 at g5 g6
      try simp only [List.set_cons_zero, List.set_cons_succ, List.map_cons, List.map_nil, mdSl, putBack, wipeE, permL, List.filterMap_cons, List.filterMap_nil, List.getElem?_cons_zero, List.getElem?_cons_succ]
      refine w_ii (mul_ok (a := 28 * (0 + i + 1)) (b := 27) hf (by decide) (by omega) (by decide) (by omega)) ?_
      refine st_ ?_
      refine ⟨_, rfl, f * 100000007 + u3 / 8, _, _, rfl, by omega, ?_⟩
      have g7 : (f * 100000007 + u3 / 8).natAbs = f.natAbs * 100000007 + (u3 / 8).natAbs := by omega
      have g8 : (u3 / 8).natAbs < 2 ^ 29 := by omega
      have g9 : 28 * (0 + i + 1 + 1) = 28 * (0 + i + 1) + 28 := by omega
      rw [g7, g9, Nat.pow_add]
      have g10 : 2 ^ 28 ≤ 2 ^ (28 * (0 + i + 1)) := Nat.pow_le_pow_right (by decide) (by omega)
      generalize 2 ^ (28 * (0 + i + 1)) = X at hf g10
      omega
    · obtain ⟨f, s3, s5, rfl, hf0, hf⟩ := hI
      refine st_ ?_
      refine w_ii (decide_eq_true (by omega)) ?_
      refine st_ ?_
      exact ⟨_, _, _, rfl, rfl, ⟨_, _, _, rfl, by omega, by omega, hc0, hc⟩, Int.emod_nonneg _ (by omega), Int.emod_lt_of_pos _ (by omega)⟩
end VL

namespace VL
open PySem PySem.Spec PyProof.Rows L2 G
theorem JB.mono {n m : Nat} {js : List D} (h : JB n js) (hn : n ≤ m) : JB m js := by
  obtain ⟨a, b, c, e, h1, h2, h3⟩ := h
  exact ⟨a, b, c, e, h1, by omega, h3⟩
theorem atI_nat {α : Type} {xs : List α} {r : Int} (h0 : 0 ≤ r) (h1 : r < xs.length) : ∃ d, L2.atI xs r = some d ∧ xs[r.toNat]? = some d := by
  unfold L2.atI L2.ixN
  rw [if_pos h0, if_pos (by omega)]
  have : r.toNat < xs.length := by omega
  exact ⟨xs[r.toNat], by simp [List.getElem?_eq_getElem this], List.getElem?_eq_getElem this⟩
theorem w_ixL {ds : List D} {r : Int} {QU : D → Prop} (h0 : 0 ≤ r) (h1 : r < ds.length) (q : ∀ d, ds[r.toNat]? = some d → QU d) : O1 (gIx (.list ds) (.int r)) QU := by
  obtain ⟨d, e1, e2⟩ := atI_nat h0 h1
  exact ⟨d, e1, q d e2⟩
theorem w_ixT {ds : List D} {r : Int} {QU : D → Prop} (h0 : 0 ≤ r) (h1 : r < ds.length) (q : ∀ d, ds[r.toNat]? = some d → QU d) : O1 (gIx (.tuple ds) (.int r)) QU := by
  obtain ⟨d, e1, e2⟩ := atI_nat h0 h1
  exact ⟨d, e1, q d e2⟩
inductive Ent where
  | bill (d s : Int) | pay (d s : Int) | named (d s : Int) (b : Nat) | struck
def Ent.D : Ent → D
  | .bill d s => .tuple [.str (Str.ofString "bill"), .int d, .int s]
  | .pay d s => .tuple [.str (Str.ofString "pay"), .int d, .int s]
  | .named d s b => .tuple [.str (Str.ofString "named"), .int d, .int s, .int b]
  | .struck => .tuple [.str (Str.ofString "struck")]
def NumOk (d s : Int) : Prop := True ∧ True ∧ 1 ≤ s ∧ True
/-- an entry as it is drawn -/
def RowOk : Ent → Prop
  | .bill d s => NumOk d s
  | .pay d s => NumOk d s
  | .named _ _ _ => False
  | .struck => True
theorem s_frame {n : Nat} {js : List D} (hj : JB n js) (hn : n ≤ 1000000000) :
    O2 (C_frame [.ow js]) fun d en => ∃ lo sp js' s, d = .tuple [.int lo, .int sp] ∧ en = .ow js' :: s ∧ JB (n + 1) js' ∧ -1000000 ≤ lo ∧ lo ≤ 1000000 ∧ 1 ≤ sp ∧ sp ≤ 2000000 := by
  refine w_fn 4 ?_
  try simp only [List.length_cons, List.length_nil, Nat.reduceAdd, Nat.reduceSub, List.replicate_succ, List.replicate_zero, List.cons_append, List.nil_append]
  unfold f__law_frame
  refine st_ ?_
  refine (s_pick hj hn (by decide) (by decide)).mono ?_
  rintro _ _ ⟨r, js', s, rfl, rfl, hJ, h0, h1⟩
  refine st_ ?_
  try simp only [List.set_cons_zero, List.set_cons_succ, List.map_cons, List.map_nil, mdSl, putBack, wipeE, permL, List.filterMap_cons, List.filterMap_nil, List.getElem?_cons_zero, List.getElem?_cons_succ]
  refine w_ixL h0 (by simpa using h1) fun lo e1 => ?_
  refine st_ ?_
  refine w_ixL h0 (by simpa using h1) fun sp e2 => ?_
  refine st_ ?_
  have m1 := List.mem_of_getElem? e1
  have m2 := List.mem_of_getElem? e2
  clear e1 e2
  have l1 : ∃ x : Int, lo = .int x ∧ -1000000 ≤ x ∧ x ≤ 1000000 := by
    simp only [List.mem_cons, List.not_mem_nil, or_false] at m1
    rcases m1 with rfl | rfl | rfl | rfl | rfl | rfl | rfl <;> exact ⟨_, rfl, by decide, by decide⟩
  have l2 : ∃ x : Int, sp = .int x ∧ 1 ≤ x ∧ x ≤ 2000000 := by
    simp only [List.mem_cons, List.not_mem_nil, or_false] at m2
    rcases m2 with rfl | rfl | rfl | rfl | rfl | rfl | rfl <;> exact ⟨_, rfl, by decide, by decide⟩
  obtain ⟨x, rfl, hx1, hx2⟩ := l1
  obtain ⟨y, rfl, hy1, hy2⟩ := l2
  exact ⟨x, y, js', _, rfl, rfl, hJ, hx1, hx2, hy1, hy2⟩
theorem s_slips {n : Nat} {js : List D} {many : Int} {ts : List Int} (hj : JB n js) (hn : n ≤ 100000000) (h0 : 0 ≤ many) (h1 : many ≤ 1000) (ht : ts ≠ []) (ht1 : ts.length ≤ 1000) (ht2 : ∀ t ∈ ts, 1 ≤ t ∧ t < 10 ^ 30) :
    O2 (C_slips [.ow js, .va (.int many), .va (.list (ts.map .int))]) fun ds en => ∃ (rows : List Ent) (js' : List D) (s : En), ds = rows.map Ent.D ∧ rows.length = many.toNat ∧ (∀ e ∈ rows, RowOk e) ∧ en = .ow js' :: s ∧ JB (n + 3 + 5 * many.toNat) js' := by
  have hl : 1 ≤ ((ts.map PyData.int).length : Int) := by
    cases ts with
    | nil => exact absurd rfl ht
    | cons t r => simp; omega
  have hl2 : ((ts.map PyData.int).length : Int) ≤ 1000 := by rw [List.length_map]; omega
  have htop : ∀ (r : Int) (d : D), (ts.map PyData.int)[r.toNat]? = some d → ∃ t, d = .int t ∧ 1 ≤ t ∧ t < 10 ^ 30 := fun r d e => by
    have := List.mem_of_getElem? e
    rw [List.mem_map] at this
    obtain ⟨t, m, rfl⟩ := this
    exact ⟨t, rfl, ht2 t m⟩
  refine w_fnL 11 ?_
  try simp only [List.length_cons, List.length_nil, Nat.reduceAdd, Nat.reduceSub, List.replicate_succ, List.replicate_zero, List.cons_append, List.nil_append]
  unfold f__law_slips
  refine st_ ?_
  refine (s_frame hj (by omega)).mono ?_
  rintro _ _ ⟨lo, sp, js1, s1, rfl, rfl, hJ1, hlo, hlo2, hsp, hsp2⟩
  refine st_ ?_
  try simp only [List.set_cons_zero, List.set_cons_succ, List.map_cons, List.map_nil, mdSl, putBack, wipeE, permL, List.filterMap_cons, List.filterMap_nil, List.getElem?_cons_zero, List.getElem?_cons_succ]
  refine st_ ?_
  refine (s_pick hJ1 (by omega) hl (by omega)).mono ?_
  rintro _ _ ⟨r, js2, s2, rfl, rfl, hJ2, hr0, hr1⟩
  refine st_ ?_
  refine w_ixL hr0 hr1 fun top et => ?_
  obtain ⟨top, rfl, hto1, hto2⟩ := htop r top et
  refine st_ ?_
  try simp only [List.set_cons_zero, List.set_cons_succ, List.map_cons, List.map_nil, mdSl, putBack, wipeE, permL, List.filterMap_cons, List.filterMap_nil, List.getElem?_cons_zero, List.getElem?_cons_succ]
  refine (s_pick hJ2 (by omega) (by decide) (by decide)).mono ?_
  rintro _ _ ⟨r2, js3, s3, rfl, rfl, hJ3, hr20, hr21⟩
  refine st_ ?_
  try simp only [List.set_cons_zero, List.set_cons_succ, List.map_cons, List.map_nil, mdSl, putBack, wipeE, permL, List.filterMap_cons, List.filterMap_nil, List.getElem?_cons_zero, List.getElem?_cons_succ]
  generalize PyData.eqv (.int r2) (.int 1) = mixed
  refine st_ ?_
  refine ⟨⟨by omega, by omega⟩, ?_⟩
  try simp only [List.set_cons_zero, List.set_cons_succ, List.map_cons, List.map_nil, mdSl, putBack, wipeE, permL, List.filterMap_cons, List.filterMap_nil, List.getElem?_cons_zero, List.getElem?_cons_succ]
  refine w_forD (fun i en => ∃ (rows : List Ent) (js' : List D) (tp : Int) (s8 s9 s10 : Sl), en = [.ow js', .va (.int many), .va (.list (ts.map .int)), .va (.int lo), .va (.int sp), .va (.int tp), .va (.bool mixed), .ow (rows.map Ent.D), s8, s9, s10] ∧
    rows.length = i ∧ (∀ e ∈ rows, RowOk e) ∧ JB (n + 3 + 5 * i) js' ∧ 1 ≤ tp ∧ tp < 10 ^ 30) _ 0 _ ⟨[], _, _, _, _, _, rfl, rfl, by simp, hJ3.mono (by omega), hto1, hto2⟩ (fun i t en et hI => ?_) fun en hI => ?_
  · obtain ⟨rows, js4, tp, s8, s9, s10, rfl, hr, hrow, hJ4, htp1, htp2⟩ := hI
    have hi : i < many.toNat := by
      have := (List.getElem?_eq_some_iff.mp et).1
      rw [List.length_range] at this
      exact this
    clear et
    refine w_turn ?_
    refine st_ ?_
    try simp only [List.set_cons_zero, List.set_cons_succ, List.map_cons, List.map_nil, mdSl, putBack, wipeE, permL, List.filterMap_cons, List.filterMap_nil, List.getElem?_cons_zero, List.getElem?_cons_succ]
    refine (s_pick hJ4 (by omega) (by decide) (by decide)).mono ?_
    rintro _ _ ⟨w, js5, s5, rfl, rfl, hJ5, hw0, hw1⟩
    refine sti_ ?_
    try simp only [List.set_cons_zero, List.set_cons_succ, List.map_cons, List.map_nil, mdSl, putBack, wipeE, permL, List.filterMap_cons, List.filterMap_nil, List.getElem?_cons_zero, List.getElem?_cons_succ]
    refine w_seq (O1.mono (Q := fun o => ∃ (js6 : List D) (tp : Int), o = .nx [.ow js6, .va (.int many), .va (.list (ts.map .int)), .va (.int lo), .va (.int sp), .va (.int tp), .va (.bool mixed), .ow (rows.map Ent.D), .va (.int (0 + (t : Int))), .va (.int w), s10] ∧ JB (n + 5 + 5 * i) js6 ∧ 1 ≤ tp ∧ tp < 10 ^ 30) ?_ ?_)
    · refine st_ ?_
      refine ⟨fun _ => ?_, fun _ => ?_⟩
      · refine st_ ?_
        try simp only [List.set_cons_zero, List.set_cons_succ, List.map_cons, List.map_nil, mdSl, putBack, wipeE, permL, List.filterMap_cons, List.filterMap_nil, List.getElem?_cons_zero, List.getElem?_cons_succ]
        refine (s_pick hJ5 (by omega) hl (by omega)).mono ?_
        rintro _ _ ⟨r, js6, s6, rfl, rfl, hJ6, hr0, hr1⟩
        refine st_ ?_
        refine w_ixL hr0 hr1 fun top et => ?_
        obtain ⟨top, rfl, hto1, hto2⟩ := htop r top et
        refine st_ ?_
        exact ⟨js6, top, rfl, hJ6.mono (by omega), hto1, hto2⟩
      · refine st_ ?_
        exact ⟨js5, tp, rfl, hJ5.mono (by omega), htp1, htp2⟩
    rintro _ ⟨js6, tp, rfl, hJ6, htp1, htp2⟩
    refine st_ ?_
    refine w_ixL (Int.emod_nonneg _ (by decide)) (by
      have := Int.emod_lt_of_pos w (show (0 : Int) < 2 by decide)
      simpa using this) fun wd ew => ?_
    have hw : wd = .str (Str.ofString "bill") ∨ wd = .str (Str.ofString "pay") := by
      have := List.mem_of_getElem? ew
      simpa using this
    clear ew
    refine st_ ?_
    try simp only [List.set_cons_zero, List.set_cons_succ, List.map_cons, List.map_nil, mdSl, putBack, wipeE, permL, List.filterMap_cons, List.filterMap_nil, List.getElem?_cons_zero, List.getElem?_cons_succ]
    refine (s_pick hJ6 (by omega) hsp (by omega)).mono ?_
    rintro _ _ ⟨r7, js7, s7, rfl, rfl, hJ7, hr70, hr71⟩
    refine st_ ?_
    try simp only [List.set_cons_zero, List.set_cons_succ, List.map_cons, List.map_nil, mdSl, putBack, wipeE, permL, List.filterMap_cons, List.filterMap_nil, List.getElem?_cons_zero, List.getElem?_cons_succ]
    refine (s_pick hJ7 (by omega) htp1 (by omega)).mono ?_
    rintro _ _ ⟨r8, js8, s8', rfl, rfl, hJ8, hr80, hr81⟩
    refine sti_ ?_
    try simp only [List.set_cons_zero, List.set_cons_succ, List.map_cons, List.map_nil, mdSl, putBack, wipeE, permL, List.filterMap_cons, List.filterMap_nil, List.getElem?_cons_zero, List.getElem?_cons_succ]
    have row : ∃ e : Ent, .tuple [wd, .int (lo + r7), .int (1 + r8)] = e.D ∧ RowOk e := by
      have hn : NumOk (lo + r7) (1 + r8) := ⟨trivial, trivial, by omega, trivial⟩
      rcases hw with rfl | rfl
      · exact ⟨.bill _ _, rfl, hn⟩
      · exact ⟨.pay _ _, rfl, hn⟩
    obtain ⟨e, he, hok⟩ := row
    rw [he]
    refine sti_ ?_
    try simp only [List.set_cons_zero, List.set_cons_succ, List.map_cons, List.map_nil, mdSl, putBack, wipeE, permL, List.filterMap_cons, List.filterMap_nil, List.getElem?_cons_zero, List.getElem?_cons_succ]
    refine w_seq (O1.mono (Q := fun o => ∃ (js9 : List D) (e : Ent), o = .nx [.ow js9, .va (.int many), .va (.list (ts.map .int)), .va (.int lo), .va (.int sp), .va (.int tp), .va (.bool mixed), .ow (rows.map Ent.D), .va (.int (0 + (t : Int))), .va (.int w), .va e.D] ∧ JB (n + 8 + 5 * i) js9 ∧ RowOk e) ?_ ?_)
    · refine st_ ?_
      refine ⟨fun _ => ?_, fun _ => ?_⟩
      · refine st_ ?_
        try simp only [List.set_cons_zero, List.set_cons_succ, List.map_cons, List.map_nil, mdSl, putBack, wipeE, permL, List.filterMap_cons, List.filterMap_nil, List.getElem?_cons_zero, List.getElem?_cons_succ]
        refine (s_pick hJ8 (by omega) (by decide) (by decide)).mono ?_
        rintro _ _ ⟨r9, js9, s9', rfl, rfl, hJ9, hr90, hr91⟩
        refine st_ ?_
        refine ⟨fun _ => ?_, fun _ => ?_⟩
        · refine st_ ?_
          exact ⟨js9, .struck, rfl, hJ9.mono (by omega), trivial⟩
        · refine st_ ?_
          exact ⟨js9, e, rfl, hJ9.mono (by omega), hok⟩
      · refine st_ ?_
        exact ⟨js8, e, rfl, hJ8.mono (by omega), hok⟩
    rintro _ ⟨js9, e, rfl, hJ9, hok⟩
    refine st_ ?_
    refine ⟨by rw [List.length_map]; exact Nat.lt_of_lt_of_le (show rows.length < 1001 by omega) (by decide), ?_⟩
    refine ⟨_, rfl, rows ++ [e], js9, tp, _, _, _, by rw [List.map_append]; rfl, by rw [List.length_append]; simp only [List.length_cons, List.length_nil]; omega, fun x hx => ?_, hJ9.mono (by omega), htp1, htp2⟩
    rw [List.mem_append] at hx
    rcases hx with hx | hx
    · exact hrow x hx
    · rw [List.mem_singleton] at hx
      rw [hx]
      exact hok
  · obtain ⟨rows, js4, tp, s8, s9, s10, rfl, hr, hrow, hJ4, htp1, htp2⟩ := hI
    have hlen : (List.range many.toNat).length = many.toNat := List.length_range
    refine st_ ?_
    exact ⟨rows, _, _, rfl, by rw [hr, hlen]; omega, hrow, rfl, hJ4.mono (by rw [hlen]; omega)⟩
end VL

namespace VL
open PySem PySem.Spec PyProof.Rows L2 G
theorem ints_lay : ∀ ns : List Int, PyData.canLayAll0 (ns.map .int) = true
  | [] => by simp only [List.map_nil, PyData.canLayAll0]
  | n :: ns => by simp only [List.map_cons, PyData.canLayAll0, PyData.canLay0, Bool.true_and, ints_lay ns]
theorem ints_depth : ∀ ns : List Int, PyData.depthAll (ns.map .int) = 0
  | [] => by simp only [List.map_nil, PyData.depthAll]
  | n :: ns => by simp [PyData.depthAll, PyData.depth, ints_depth ns]
theorem ints_shaped (ns : List Int) : SeqAt.shaped (.list (ns.map .int)) = true := by
  simp [SeqAt.shaped, PyData.canLay0, PyData.depth, ints_lay, ints_depth]
theorem eqv_ints : ∀ ns ms : List Int, PyData.eqvAll (ns.map .int) (ms.map .int) = decide (ns = ms)
  | [], [] => by simp [PyData.eqvAll]
  | [], m :: ms => by simp [PyData.eqvAll]
  | n :: ns, [] => by simp [PyData.eqvAll]
  | n :: ns, m :: ms => by
    simp only [List.map_cons, PyData.eqvAll, PyData.eqv, eqv_ints ns ms, List.cons.injEq]
    by_cases h : n = m <;> simp [h]
def Ent.word : Ent → Str
  | .bill _ _ => Str.ofString "bill"
  | .pay _ _ => Str.ofString "pay"
  | .named _ _ _ => Str.ofString "named"
  | .struck => Str.ofString "struck"
def Ent.isBill : Ent → Bool
  | .bill _ _ => true
  | _ => false
def Ent.isPay : Ent → Bool
  | .pay _ _ => true
  | _ => false
def Ent.isNamed : Ent → Bool
  | .named _ _ _ => true
  | _ => false
def Ent.isStruck : Ent → Bool
  | .struck => true
  | _ => false
def Ent.day : Ent → Int
  | .bill d _ => d
  | .pay d _ => d
  | .named d _ _ => d
  | .struck => 0
def Ent.sum : Ent → Int
  | .bill _ s => s
  | .pay _ s => s
  | .named _ s _ => s
  | .struck => 0
theorem Ent.ix0 (e : Ent) : gIx e.D (.int 0) = some (.str e.word) := by cases e <;> rfl
theorem Ent.ix1 {e : Ent} (h : e.isStruck = false) : gIx e.D (.int 1) = some (.int e.day) := by
  cases e <;> first | rfl | cases h
theorem Ent.ix2 {e : Ent} (h : e.isStruck = false) : gIx e.D (.int 2) = some (.int e.sum) := by
  cases e <;> first | rfl | cases h
theorem str_shaped {x : Str} (h : PyData.strOk x = true) : SeqAt.shaped (.str x) = true := by
  simp [SeqAt.shaped, PyData.canLay0, PyData.depth, h]
theorem Ent.word_shaped (e : Ent) : SeqAt.shaped (.str e.word) = true := by cases e <;> simp only [Ent.word, Ent.isBill, Ent.isPay, Ent.isNamed, Ent.isStruck] <;> decide +kernel
theorem Ent.eq_bill (e : Ent) : PyData.eqv (.str e.word) (.str (Str.ofString "bill")) = e.isBill := by cases e <;> simp only [Ent.word, Ent.isBill, Ent.isPay, Ent.isNamed, Ent.isStruck] <;> decide +kernel
theorem Ent.eq_pay (e : Ent) : PyData.eqv (.str e.word) (.str (Str.ofString "pay")) = e.isPay := by cases e <;> simp only [Ent.word, Ent.isBill, Ent.isPay, Ent.isNamed, Ent.isStruck] <;> decide +kernel
theorem Ent.eq_named (e : Ent) : PyData.eqv (.str e.word) (.str (Str.ofString "named")) = e.isNamed := by cases e <;> simp only [Ent.word, Ent.isBill, Ent.isPay, Ent.isNamed, Ent.isStruck] <;> decide +kernel
theorem Ent.eq_struck (e : Ent) : PyData.eqv (.str e.word) (.str (Str.ofString "struck")) = e.isStruck := by cases e <;> simp only [Ent.word, Ent.isBill, Ent.isPay, Ent.isNamed, Ent.isStruck] <;> decide +kernel
/-- an entry of an account -/
def EntOk (es : List Ent) : Ent → Prop
  | .bill d s => NumOk d s
  | .pay d s => NumOk d s
  | .named d s b => NumOk d s ∧ ∃ d' s', es[b]? = some (.bill d' s') ∧ d' ≤ d
  | .struck => True
def AccOk (es : List Ent) : Prop := ∀ e ∈ es, EntOk es e
theorem atI_map {es : List Ent} {i : Nat} {e : Ent} (h : es[i]? = some e) : L2.atI (es.map Ent.D) (i : Int) = some e.D := by
  have hl := (List.getElem?_eq_some_iff.mp h).1
  unfold L2.atI L2.ixN
  rw [if_pos (by omega), if_pos (by rw [List.length_map]; omega)]
  simp [h]
theorem ixN_map {es : List Ent} {i : Nat} (h : i < es.length) : L2.ixN (es.map Ent.D).length (i : Int) = some i := by
  unfold L2.ixN
  rw [if_pos (by omega), if_pos (by rw [List.length_map]; omega)]
  simp
theorem EntOk.set {es : List Ent} {i : Nat} {x y : Ent} {d s : Int} (h : es[i]? = some (.pay d s)) (hx : EntOk es x) : EntOk (es.set i y) x := by
  cases x with
  | named d1 s1 b =>
    obtain ⟨h1, d', s', h2, h3⟩ := hx
    refine ⟨h1, d', s', ?_, h3⟩
    have : i ≠ b := fun z => by
      subst z
      rw [h] at h2
      cases h2
    rw [List.getElem?_set_ne this]
    exact h2
  | _ => exact hx
end VL

namespace VL
open PySem PySem.Spec PyProof.Rows L2 G
theorem cut_map (ns : List Int) (lo hi : Option Int) : ∃ ms : List Int, cutD (ns.map .int) lo hi = ms.map .int ∧ ms.length ≤ ns.length ∧ (∀ m ∈ ms, m ∈ ns) := by
  unfold cutD
  generalize HT.sIx _ 0 lo = a
  generalize HT.sIx _ _ hi - a = b
  refine ⟨(ns.drop a).take b, by rw [← List.map_drop, ← List.map_take], by simp; omega, fun m hm => List.mem_of_mem_drop (List.mem_of_mem_take hm)⟩
theorem s_many {n : Nat} {js : List D} {upto : Int} (hj : JB n js) (hn : n ≤ 100000000) (h0 : 0 ≤ upto) (h1 : upto ≤ 1000) :
    O2 (C_many [.ow js, .va (.int upto)]) fun d en => ∃ (r : Int) (js' : List D) (s : En), d = .int r ∧ en = .ow js' :: s ∧ JB (n + 2) js' ∧ 0 ≤ r ∧ r ≤ upto := by
  refine w_fn 2 ?_
  try simp only [List.length_cons, List.length_nil, Nat.reduceAdd, Nat.reduceSub, List.replicate_succ, List.replicate_zero, List.cons_append, List.nil_append]
  unfold f__law_many
  refine st_ ?_
  refine (s_pick hj (by omega) (by decide) (by decide)).mono ?_
  rintro _ _ ⟨r, js1, s1, rfl, rfl, hJ1, hr0, hr1⟩
  refine st_ ?_
  try simp only [List.set_cons_zero, List.set_cons_succ, List.map_cons, List.map_nil, mdSl, putBack, wipeE, permL, List.filterMap_cons, List.filterMap_nil, List.getElem?_cons_zero, List.getElem?_cons_succ]
  refine ⟨fun _ => ?_, fun _ => ?_⟩
  · refine st_ ?_
    try simp only [List.set_cons_zero, List.set_cons_succ, List.map_cons, List.map_nil, mdSl, putBack, wipeE, permL, List.filterMap_cons, List.filterMap_nil, List.getElem?_cons_zero, List.getElem?_cons_succ]
    refine (s_pick hJ1 (by omega) (by omega) (by omega)).mono ?_
    rintro _ _ ⟨r, js2, s2, rfl, rfl, hJ2, hr0, hr1⟩
    exact ⟨r, js2, _, rfl, rfl, hJ2, hr0, by omega⟩
  · refine st_ ?_
    try simp only [List.set_cons_zero, List.set_cons_succ, List.map_cons, List.map_nil, mdSl, putBack, wipeE, permL, List.filterMap_cons, List.filterMap_nil, List.getElem?_cons_zero, List.getElem?_cons_succ]
    refine (s_pick hJ1 (by omega) (by decide) (by decide)).mono ?_
    rintro _ _ ⟨r, js2, s2, rfl, rfl, hJ2, hr0, hr1⟩
    refine st_ ?_
    try simp only [List.set_cons_zero, List.set_cons_succ, List.map_cons, List.map_nil, mdSl, putBack, wipeE, permL, List.filterMap_cons, List.filterMap_nil, List.getElem?_cons_zero, List.getElem?_cons_succ]
    refine w_ixL hr0 (by simpa using hr1) fun x ex => ?_
    have hx : ∃ y : Int, x = .int y ∧ 0 ≤ y := by
      have := List.mem_of_getElem? ex
      simp only [List.mem_cons, List.not_mem_nil, or_false] at this
      rcases this with rfl | rfl | rfl | rfl | rfl | rfl | rfl | rfl <;> exact ⟨_, rfl, by decide⟩
    obtain ⟨y, rfl, hy⟩ := hx
    refine st_ ?_
    refine ⟨_, js2, _, rfl, rfl, hJ2, ?_, ?_⟩ <;> (split <;> omega)
theorem rows_acc {es : List Ent} (h : ∀ e ∈ es, RowOk e) : AccOk es := fun e he => by
  have := h e he
  cases e with
  | named d s b => exact this.elim
  | _ => exact this
end VL

namespace VL
open PySem PySem.Spec PyProof.Rows L2 G
def accD (es : List Ent) : D := .tuple (es.map Ent.D)
theorem s_is_integer (d : D) : O2 (C_is_integer [.va d]) fun r en => r = .bool (isiD d "int" && !isiD d "bool") := by
  refine w_fn 1 ?_
  try simp only [List.length_cons, List.length_nil, Nat.reduceAdd, Nat.reduceSub, List.replicate_succ, List.replicate_zero, List.cons_append, List.nil_append]
  unfold f_is_integer
  refine st_ ?_
  refine ⟨fun h => ?_, fun h => ?_⟩
  · refine st_ ?_
    show _ = _
    rw [h]
    rfl
  · show _ = _
    rw [h]
    rfl
theorem s_is_integer_int (i : Int) : O2 (C_is_integer [.va (.int i)]) fun r en => r = .bool true := (s_is_integer _).mono fun _ _ h => h
theorem s_is_sum {i : Int} (h : 1 ≤ i) : O2 (C_is_sum [.va (.int i)]) fun r en => r = .bool true := by
  refine w_fn 1 ?_
  try simp only [List.length_cons, List.length_nil, Nat.reduceAdd, Nat.reduceSub, List.replicate_succ, List.replicate_zero, List.cons_append, List.nil_append]
  unfold f_is_sum
  refine st_ ?_
  refine x_t (by simp [PyData.eqv, typD, isiD, isNone]; done) ?_
  refine st_ ?_
  refine x_t (by simp [PyData.eqv, typD, isiD, isNone]; done) ?_
  refine st_ ?_
  show _ = _
  rw [decide_eq_true h]
theorem s_has_entry_form {es : List Ent} {e : Ent} (h : EntOk es e) : O2 (C_has_entry_form [.va e.D]) fun r en => r = .bool true := by
  refine w_fn 5 ?_
  try simp only [List.length_cons, List.length_nil, Nat.reduceAdd, Nat.reduceSub, List.replicate_succ, List.replicate_zero, List.cons_append, List.nil_append]
  unfold f_has_entry_form
  cases e with
  | bill d s =>
    simp only [Ent.D]
    refine st_ ?_
    refine x_f (by simp [PyData.eqv, typD, isiD, isNone]; done) ?_
    refine st_ ?_
    refine x_t (by simp [PyData.eqv, typD, isiD, isNone]; done) ?_
    refine st_ ?_
    try simp only [List.set_cons_zero, List.set_cons_succ, List.map_cons, List.map_nil, mdSl, putBack, wipeE, permL, List.filterMap_cons, List.filterMap_nil, List.getElem?_cons_zero, List.getElem?_cons_succ]
    refine st_ ?_
    try simp only [List.set_cons_zero, List.set_cons_succ, List.map_cons, List.map_nil, mdSl, putBack, wipeE, permL, List.filterMap_cons, List.filterMap_nil, List.getElem?_cons_zero, List.getElem?_cons_succ]
    refine (s_is_integer_int _).mono ?_
    rintro _ _ rfl
    refine st_ ?_
    try simp only [List.set_cons_zero, List.set_cons_succ, List.map_cons, List.map_nil, mdSl, putBack, wipeE, permL, List.filterMap_cons, List.filterMap_nil, List.getElem?_cons_zero, List.getElem?_cons_succ]
    refine st_ ?_
    try simp only [List.set_cons_zero, List.set_cons_succ, List.map_cons, List.map_nil, mdSl, putBack, wipeE, permL, List.filterMap_cons, List.filterMap_nil, List.getElem?_cons_zero, List.getElem?_cons_succ]
    refine (s_is_sum h.2.2.1).mono ?_
    rintro _ _ rfl
    rfl
  | pay d s =>
    simp only [Ent.D]
    refine st_ ?_
    refine x_f (by simp [PyData.eqv, typD, isiD, isNone]; done) ?_
    refine st_ ?_
    refine x_t (by simp [PyData.eqv, typD, isiD, isNone]; done) ?_
    refine st_ ?_
    try simp only [List.set_cons_zero, List.set_cons_succ, List.map_cons, List.map_nil, mdSl, putBack, wipeE, permL, List.filterMap_cons, List.filterMap_nil, List.getElem?_cons_zero, List.getElem?_cons_succ]
    refine st_ ?_
    try simp only [List.set_cons_zero, List.set_cons_succ, List.map_cons, List.map_nil, mdSl, putBack, wipeE, permL, List.filterMap_cons, List.filterMap_nil, List.getElem?_cons_zero, List.getElem?_cons_succ]
    refine (s_is_integer_int _).mono ?_
    rintro _ _ rfl
    refine st_ ?_
    try simp only [List.set_cons_zero, List.set_cons_succ, List.map_cons, List.map_nil, mdSl, putBack, wipeE, permL, List.filterMap_cons, List.filterMap_nil, List.getElem?_cons_zero, List.getElem?_cons_succ]
    refine st_ ?_
    try simp only [List.set_cons_zero, List.set_cons_succ, List.map_cons, List.map_nil, mdSl, putBack, wipeE, permL, List.filterMap_cons, List.filterMap_nil, List.getElem?_cons_zero, List.getElem?_cons_succ]
    refine (s_is_sum h.2.2.1).mono ?_
    rintro _ _ rfl
    rfl
  | named d s b =>
    simp only [Ent.D]
    refine st_ ?_
    refine x_f (by simp [PyData.eqv, typD, isiD, isNone]; done) ?_
    refine st_ ?_
    refine x_f (by simp [PyData.eqv, typD, isiD, isNone]; done) ?_
    refine st_ ?_
    refine x_t (by simp [PyData.eqv, typD, isiD, isNone]; done) ?_
    refine st_ ?_
    try simp only [List.set_cons_zero, List.set_cons_succ, List.map_cons, List.map_nil, mdSl, putBack, wipeE, permL, List.filterMap_cons, List.filterMap_nil, List.getElem?_cons_zero, List.getElem?_cons_succ]
    refine st_ ?_
    try simp only [List.set_cons_zero, List.set_cons_succ, List.map_cons, List.map_nil, mdSl, putBack, wipeE, permL, List.filterMap_cons, List.filterMap_nil, List.getElem?_cons_zero, List.getElem?_cons_succ]
    refine (s_is_integer_int _).mono ?_
    rintro _ _ rfl
    refine st_ ?_
    try simp only [List.set_cons_zero, List.set_cons_succ, List.map_cons, List.map_nil, mdSl, putBack, wipeE, permL, List.filterMap_cons, List.filterMap_nil, List.getElem?_cons_zero, List.getElem?_cons_succ]
    refine st_ ?_
    try simp only [List.set_cons_zero, List.set_cons_succ, List.map_cons, List.map_nil, mdSl, putBack, wipeE, permL, List.filterMap_cons, List.filterMap_nil, List.getElem?_cons_zero, List.getElem?_cons_succ]
    refine (s_is_sum h.1.2.2.1).mono ?_
    rintro _ _ rfl
    refine st_ ?_
    try simp only [List.set_cons_zero, List.set_cons_succ, List.map_cons, List.map_nil, mdSl, putBack, wipeE, permL, List.filterMap_cons, List.filterMap_nil, List.getElem?_cons_zero, List.getElem?_cons_succ]
    refine st_ ?_
    try simp only [List.set_cons_zero, List.set_cons_succ, List.map_cons, List.map_nil, mdSl, putBack, wipeE, permL, List.filterMap_cons, List.filterMap_nil, List.getElem?_cons_zero, List.getElem?_cons_succ]
    refine (s_is_integer_int _).mono ?_
    rintro _ _ rfl
    rfl
  | struck =>
    simp only [Ent.D]
    refine st_ ?_
    rfl
theorem s_is_index {es : List Ent} {b : Nat} {e : Ent} (h : es[b]? = some e) (hs : e.isStruck = false) : O2 (C_is_index [.va (accD es), .va (.int b)]) fun r en => r = .bool true := by
  have hl := (List.getElem?_eq_some_iff.mp h).1
  refine w_fn 2 ?_
  try simp only [List.length_cons, List.length_nil, Nat.reduceAdd, Nat.reduceSub, List.replicate_succ, List.replicate_zero, List.cons_append, List.nil_append]
  unfold f_is_index
  refine st_ ?_
  refine (s_is_integer_int _).mono ?_
  rintro _ _ rfl
  refine st_ ?_
  try simp only [List.set_cons_zero, List.set_cons_succ, List.map_cons, List.map_nil, mdSl, putBack, wipeE, permL, List.filterMap_cons, List.filterMap_nil, List.getElem?_cons_zero, List.getElem?_cons_succ]
  refine st_ ?_
  refine x_t (decide_eq_true (by omega)) ?_
  unfold accD
  refine st_ ?_
  refine x_t (decide_eq_true (by rw [List.length_map]; omega)) ?_
  refine st_ ?_
  refine O1.of (atI_map h) ?_
  refine st_ ?_
  refine O1.of e.ix0 ?_
  refine st_ ?_
  refine w_gne e.word_shaped (by decide +kernel) ?_
  rw [e.eq_struck, hs]
  rfl
theorem s_is_bill_index {es : List Ent} {b : Nat} {e : Ent} (h : es[b]? = some e) (hs : e.isBill = true) : O2 (C_is_bill_index [.va (accD es), .va (.int b)]) fun r en => r = .bool true := by
  have hz : e.isStruck = false := by cases e <;> first | rfl | cases hs
  refine w_fn 2 ?_
  try simp only [List.length_cons, List.length_nil, Nat.reduceAdd, Nat.reduceSub, List.replicate_succ, List.replicate_zero, List.cons_append, List.nil_append]
  unfold f_is_bill_index
  refine st_ ?_
  refine (s_is_index h hz).mono ?_
  rintro _ _ rfl
  refine st_ ?_
  try simp only [List.set_cons_zero, List.set_cons_succ, List.map_cons, List.map_nil, mdSl, putBack, wipeE, permL, List.filterMap_cons, List.filterMap_nil, List.getElem?_cons_zero, List.getElem?_cons_succ]
  unfold accD
  refine st_ ?_
  refine O1.of (atI_map h) ?_
  refine st_ ?_
  refine O1.of e.ix0 ?_
  refine st_ ?_
  refine w_geq e.word_shaped (by decide +kernel) ?_
  rw [e.eq_bill, hs]
  rfl
theorem s_names_its_bill {es : List Ent} {d s : Int} {b : Nat} (h : EntOk es (.named d s b)) : O2 (C_names_its_bill [.va (accD es), .va (Ent.named d s b).D]) fun r en => r = .bool true := by
  refine w_fn 2 ?_
  try simp only [List.length_cons, List.length_nil, Nat.reduceAdd, Nat.reduceSub, List.replicate_succ, List.replicate_zero, List.cons_append, List.nil_append]
  unfold f_names_its_bill
  obtain ⟨h1, d', s', h2, h3⟩ := h
  simp only [Ent.D]
  refine st_ ?_
  refine (s_is_bill_index h2 rfl).mono ?_
  rintro _ _ rfl
  refine st_ ?_
  try simp only [List.set_cons_zero, List.set_cons_succ, List.map_cons, List.map_nil, mdSl, putBack, wipeE, permL, List.filterMap_cons, List.filterMap_nil, List.getElem?_cons_zero, List.getElem?_cons_succ]
  unfold accD
  refine st_ ?_
  refine O1.of (atI_map h2) ?_
  simp only [Ent.D]
  refine st_ ?_
  show _ = _
  rw [decide_eq_true h3]
def isNamed : Ent → Bool
  | .named _ _ _ => true
  | _ => false
theorem s_fits_account {es : List Ent} (h : AccOk es) (hl : es.length ≤ 1000) : O2 (C_fits_account [.va (accD es)]) fun r en => r = .bool true := by
  have hz : es.length ≤ sizeLine := Nat.le_trans hl (by decide)
  have hall : ∀ (xs : List Ent) (f : Ent → Option Bool), (∀ x b, f x = some b → b = true) → gAll [.list ((xs.filterMap f).map .bool)] = some (.bool true) := fun xs f hf => by
    unfold gAll
    simp only [boolsOf_map]
    have : (xs.filterMap f).all id = true := by
      rw [List.all_eq_true]
      intro b hb
      rw [List.mem_filterMap] at hb
      obtain ⟨x, _, e⟩ := hb
      exact hf x b e
    rw [this]
  refine w_fn 2 ?_
  try simp only [List.length_cons, List.length_nil, Nat.reduceAdd, Nat.reduceSub, List.replicate_succ, List.replicate_zero, List.cons_append, List.nil_append]
  unfold f_fits_account accD
  refine st_ ?_
  refine x_f (by simp [PyData.eqv, typD, isiD, isNone]; done) ?_
  refine st_ ?_
  try simp only [List.set_cons_zero, List.set_cons_succ, List.map_cons, List.map_nil, mdSl, putBack, wipeE, permL, List.filterMap_cons, List.filterMap_nil, List.getElem?_cons_zero, List.getElem?_cons_succ]
  refine w_compD (fun e => (some true).map PyData.bool) hz (fun e he => ?_) ?_
  · refine st_ ?_
    refine (s_has_entry_form (h e he)).mono ?_
    rintro _ _ rfl
    exact ⟨rfl, rfl⟩
  rw [← List.map_filterMap]
  refine st_ ?_
  refine O1.of (hall es (fun _ => some true) fun _ _ e => by cases e; rfl) ?_
  refine st_ ?_
  try simp only [List.set_cons_zero, List.set_cons_succ, List.map_cons, List.map_nil, mdSl, putBack, wipeE, permL, List.filterMap_cons, List.filterMap_nil, List.getElem?_cons_zero, List.getElem?_cons_succ]
  refine w_compD (fun e => (if isNamed e then some true else none).map PyData.bool) hz (fun e he => ?_) ?_
  · refine st_ ?_
    try simp only [List.set_cons_zero, List.set_cons_succ, List.map_cons, List.map_nil, mdSl, putBack, wipeE, permL, List.filterMap_cons, List.filterMap_nil, List.getElem?_cons_zero, List.getElem?_cons_succ]
    refine O1.of e.ix0 ?_
    refine st_ ?_
    refine w_geq e.word_shaped (by decide +kernel) ?_
    refine st_ ?_
    rw [e.eq_named]
    refine ⟨fun hs => ?_, fun hs => ?_⟩
    · cases e with
      | named d s b => cases hs
      | _ => exact ⟨rfl, by first | rfl | trivial⟩
    · cases e with
      | named d s b =>
        refine st_ ?_
        try simp only [List.set_cons_zero, List.set_cons_succ, List.map_cons, List.map_nil, mdSl, putBack, wipeE, permL, List.filterMap_cons, List.filterMap_nil, List.getElem?_cons_zero, List.getElem?_cons_succ]
        refine (s_names_its_bill (h _ he)).mono ?_
        rintro _ _ rfl
        exact ⟨rfl, by first | rfl | trivial⟩
      | _ => cases hs
  rw [← List.map_filterMap]
  refine st_ ?_
  refine O1.of (hall es _ fun x b e => by
    split at e
    · cases e
      rfl
    · cases e) ?_
  rfl
theorem s_check_account {es : List Ent} (h : AccOk es) (hl : es.length ≤ 1000) : O2 (C_check_account [.va (accD es)]) fun r en => True := by
  refine w_fn 1 ?_
  try simp only [List.length_cons, List.length_nil, Nat.reduceAdd, Nat.reduceSub, List.replicate_succ, List.replicate_zero, List.cons_append, List.nil_append]
  unfold f_check_account
  refine st_ ?_
  refine (s_fits_account h hl).mono ?_
  rintro _ _ rfl
  refine st_ ?_
  trivial
end VL

namespace VL
open PySem PySem.Spec PyProof.Rows L2 G
/-- the days and indexes of the entries that are not struck -/
def dayIx (es : List Ent) (k : Nat) : Option (Int × Int) := match es[k]? with
  | some e => if e.isStruck then none else some (e.day, (k : Int))
  | none => none
def pairs (es : List Ent) : List (Int × Int) := (List.range es.length).filterMap (dayIx es)
def lineL (es : List Ent) : List Int := (sortP (pairs es)).map (·.2)
theorem pairs_len (es : List Ent) : (pairs es).length ≤ es.length := by
  refine Nat.le_trans (List.length_filterMap_le _ _) ?_
  rw [List.length_range]
  exact Nat.le_refl _
theorem line_len (es : List Ent) : (lineL es).length ≤ es.length := by
  unfold lineL
  rw [List.length_map, (sortP_perm _).length_eq]
  exact pairs_len es
theorem pairs_mem {es : List Ent} {p : Int × Int} (h : p ∈ pairs es) : ∃ (k : Nat) (e : Ent), es[k]? = some e ∧ e.isStruck = false ∧ p = (e.day, (k : Int)) := by
  unfold pairs at h
  rw [List.mem_filterMap] at h
  obtain ⟨k, _, h⟩ := h
  unfold dayIx at h
  split at h
  · rename_i e he
    split at h
    · cases h
    · rename_i hs
      cases h
      exact ⟨k, e, he, by simpa using hs, rfl⟩
  · cases h
theorem line_mem {es : List Ent} {i : Int} (h : i ∈ lineL es) : ∃ (k : Nat) (e : Ent), es[k]? = some e ∧ e.isStruck = false ∧ i = (k : Int) := by
  unfold lineL at h
  rw [List.mem_map] at h
  obtain ⟨p, hp, rfl⟩ := h
  obtain ⟨k, e, h1, h2, rfl⟩ := pairs_mem ((sortP_perm _).subset hp)
  exact ⟨k, e, h1, h2, rfl⟩
theorem pairs_not_ints : ∀ (ps : List (Int × Int)), ps ≠ [] → intsOf (ps.map pairD) = none
  | [], h => absurd rfl h
  | p :: ps, _ => rfl
theorem gSorted_pairs (ps : List (Int × Int)) : gSorted [.list (ps.map pairD)] = some ((sortP ps).map pairD) := by
  unfold gSorted
  cases ps with
  | nil => simp [intsOf, sortI, sortP]
  | cons p r => simp only [pairs_not_ints (p :: r) (by simp), pairsOf_map]
theorem gSorted_ints (ns : List Int) : gSorted [.list (ns.map .int)] = some ((sortI ns).map .int) := by
  unfold gSorted
  simp only [intsOf_map]
theorem gSortA_pairs (ps : List (Int × Int)) : gSortA [.list (ps.map pairD)] = some ((sortP ps).map pairD) := by
  unfold gSortA
  simp only [gSorted_pairs]
theorem gSortA_ints (ns : List Int) : gSortA [.list (ns.map .int)] = some ((sortI ns).map .int) := by
  unfold gSortA
  simp only [gSorted_ints]
theorem s_along {es : List Ent} (hl : es.length ≤ 1000) : O2 (C_along [.va (accD es)]) fun ds en => ds = (lineL es).map .int := by
  have hz : ∀ n, n ≤ 1000 → n ≤ sizeLine := fun n h => Nat.le_trans h (by decide)
  refine w_fnL 5 ?_
  try simp only [List.length_cons, List.length_nil, Nat.reduceAdd, Nat.reduceSub, List.replicate_succ, List.replicate_zero, List.cons_append, List.nil_append]
  unfold f_along
  refine st_ ?_
  unfold accD
  refine st_ ?_
  refine ⟨by rw [List.length_map]; exact ⟨by omega, by omega⟩, ?_⟩
  try simp only [List.set_cons_zero, List.set_cons_succ, List.map_cons, List.map_nil, mdSl, putBack, wipeE, permL, List.filterMap_cons, List.filterMap_nil, List.getElem?_cons_zero, List.getElem?_cons_succ]
  refine w_compD (fun k => (dayIx es k).map pairD) (by rw [List.length_range, List.length_map]; exact hz _ (by omega)) (fun k hk => ?_) ?_
  · have hk : k < es.length := by
      rw [List.mem_range, List.length_map] at hk
      omega
    have he : es[k]? = some es[k] := List.getElem?_eq_getElem hk
    generalize es[k] = e at he
    refine st_ ?_
    rw [Int.zero_add]
    refine O1.of (atI_map he) ?_
    refine st_ ?_
    refine O1.of e.ix0 ?_
    refine st_ ?_
    refine w_gne e.word_shaped (by decide +kernel) ?_
    rw [e.eq_struck]
    refine st_ ?_
    refine ⟨fun hs => ⟨?_, rfl⟩, fun hs => ?_⟩
    · have : e.isStruck = true := by simpa using hs
      show Option.map pairD (dayIx es k) = none
      simp only [dayIx, he, this, if_true, Option.map_none]
    · have hs : e.isStruck = false := by simpa using hs
      refine st_ ?_
      refine O1.of (atI_map he) ?_
      refine st_ ?_
      refine O1.of (e.ix1 hs) ?_
      refine st_ ?_
      refine ⟨?_, rfl⟩
      show Option.map pairD (dayIx es k) = _
      simp only [dayIx, he, hs, Bool.false_eq_true, if_false, Option.map_some]
      rfl
  have hp : List.filterMap (fun k => (dayIx es k).map pairD) (List.range ((es.map Ent.D).length : Int).toNat) = (pairs es).map pairD := by
    rw [← List.map_filterMap]
    unfold pairs
    rw [List.length_map, Int.toNat_natCast]
  rw [hp]
  refine st_ ?_
  refine O1.of (gSortA_pairs _) ?_
  refine st_ ?_
  refine w_compD (fun p => (some p.2).map PyData.int) (by rw [(sortP_perm _).length_eq]; exact hz _ (Nat.le_trans (pairs_len es) hl)) (fun p hp => ?_) ?_
  · unfold pairD
    refine st_ ?_
    exact ⟨rfl, rfl⟩
  rw [← List.map_filterMap]
  show _ = _
  unfold lineL
  rw [show (fun p : Int × Int => some p.2) = some ∘ (·.2) from rfl, List.filterMap_eq_map]
end VL

namespace VL
open PySem PySem.Spec PyProof.Rows L2 G
/-! ### layings, pure -/
abbrev Tri := Int × Int × Int
def entB (es : List Ent) (k : Nat) : Bool := match es[k]? with
  | some e => e.isBill
  | none => false
def namedOf (es : List Ent) (k : Nat) : Option Nat := match es[k]? with
  | some (.named _ _ b) => some b
  | _ => none
def frontN (o : Option Nat) (B : List Nat) : List Nat := match o with
  | some b => if b ∈ B then b :: B.filter (fun o => decide (o ≠ b)) else B
  | none => B
def partN (es : List Ent) (ch : Ch) (ls : List Int) (i : Nat) (C : List Nat) : List Nat :=
  if entB es i = true then C.filter (fun o => !entB es o) else frontN (namedOf es i) (rankN ch ls (C.filter fun o => entB es o))
def rowN (es : List Ent) (i o : Nat) (m : Int) : Tri := if entB es i = true then ((i : Int), (o : Int), m) else ((o : Int), (i : Int), m)
def minV (a b : Int) : Int := if b < a then b else a
def pairN (es : List Ent) (i : Nat) (s : List Int × List Tri) (o : Nat) : List Int × List Tri :=
  if 0 < minV (lvN s.1 i) (lvN s.1 o) then
    ((s.1.set i (lvN s.1 i - minV (lvN s.1 i) (lvN s.1 o))).set o (lvN s.1 o - minV (lvN s.1 i) (lvN s.1 o)), s.2 ++ [rowN es i o (minV (lvN s.1 i) (lvN s.1 o))])
  else s
def othersN (L met : List Nat) (ls : List Int) : List Nat := L.filter fun o => decide (o ∈ met) && decide (0 < lvN ls o)
structure GSt where
  left : List Int
  rows : List Tri
  met : List Nat
def stepN (es : List Ent) (ch : Ch) (L : List Nat) (s : GSt) (i : Nat) : GSt :=
  ⟨((partN es ch s.left i (othersN L s.met s.left)).foldl (pairN es i) (s.left, s.rows)).1, ((partN es ch s.left i (othersN L s.met s.left)).foldl (pairN es i) (s.left, s.rows)).2, s.met ++ [i]⟩
theorem lvN_set (ls : List Int) (i k : Nat) (v : Int) (h : i < ls.length) : lvN (ls.set i v) k = if k = i then v else lvN ls k := by
  unfold lvN
  rw [List.getD_eq_getElem?_getD, List.getD_eq_getElem?_getD, List.getElem?_set]
  by_cases hk : k = i
  · subst hk
    simp [h]
  · have : ¬ i = k := fun z => hk z.symm
    simp [this, hk]
theorem pairN_len (es : List Ent) (i : Nat) (s : List Int × List Tri) (o : Nat) : (pairN es i s o).1.length = s.1.length := by
  unfold pairN
  split <;> simp
theorem fold_len (es : List Ent) (i : Nat) : ∀ (R : List Nat) (s : List Int × List Tri), (R.foldl (pairN es i) s).1.length = s.1.length
  | [], s => rfl
  | o :: R, s => by
    rw [List.foldl_cons, fold_len es i R, pairN_len]
/-- nothing is left of the one that is laid: nothing more is laid -/
theorem fold_done (es : List Ent) (i : Nat) : ∀ (R : List Nat) (s : List Int × List Tri), lvN s.1 i = 0 → R.foldl (pairN es i) s = s
  | [], s, _ => rfl
  | o :: R, s, h => by
    have : pairN es i s o = s := by
      unfold pairN
      rw [if_neg]
      rw [h]
      unfold minV
      split <;> omega
    rw [List.foldl_cons, this]
    exact fold_done es i R s h
/-- the law's choice at a turn -/
def getN (met : List Nat) (ls : List Int) (k : Nat) : Int := if k ∈ met then lvN ls k else 0
def matesN (es : List Ent) (L met : List Nat) (ls : List Int) (i : Nat) : List Nat := L.filter fun o => decide (0 < getN met ls o) && (entB es o != entB es i)
def restN (es : List Ent) (L met : List Nat) (ls : List Int) (i : Nat) (ch : Ch) : Option Nat := if entB es i = true then (matesN es L met ls i).head? else pickN ch ls (matesN es L met ls i)
def mateN (es : List Ent) (L met : List Nat) (ls : List Int) (i : Nat) (ch : Ch) : Option Nat := match namedOf es i with
  | some b => if 0 < getN met ls b then some b else restN es L met ls i ch
  | none => restN es L met ls i ch
theorem rank_perm (ch : Ch) (ls : List Int) (C : List Nat) : (rankN ch ls C).Perm C := by
  cases ch with
  | oldest => exact List.Perm.refl _
  | newest => exact List.reverse_perm _
  | greatest => exact List.mergeSort_perm _ _
  | least => exact List.mergeSort_perm _ _
theorem front_perm {o : Option Nat} {B : List Nat} (nd : B.Nodup) : (frontN o B).Perm B := by
  cases o with
  | none => exact List.Perm.refl _
  | some b =>
    show (if b ∈ B then b :: B.filter (fun o => decide (o ≠ b)) else B).Perm B
    split
    · rename_i h
      refine (List.perm_ext_iff_of_nodup (List.nodup_cons.mpr ⟨fun z => ?_, nd.filter _⟩) nd).mpr fun x => ?_
      · have := (List.mem_filter.mp z).2
        simp at this
      · rw [List.mem_cons, List.mem_filter]
        simp only [decide_eq_true_eq]
        constructor
        · rintro (rfl | h2)
          · exact h
          · exact h2.1
        · intro h2
          by_cases e : x = b
          · exact .inl e
          · exact .inr ⟨h2, e⟩
    · exact List.Perm.refl _
theorem part_perm (es : List Ent) (ch : Ch) (ls : List Int) (i : Nat) {C : List Nat} (nd : C.Nodup) : (partN es ch ls i C).Perm (C.filter fun o => entB es o != entB es i) := by
  unfold partN
  split
  · rename_i h
    rw [h]
    refine List.Perm.of_eq (List.filter_congr fun x _ => ?_)
    cases entB es x <;> rfl
  · rename_i h
    have h : entB es i = false := by simpa using h
    rw [h]
    refine ((front_perm ((rank_perm ch ls _).nodup_iff.mpr (nd.filter _))).trans (rank_perm ch ls _)).trans (List.Perm.of_eq (List.filter_congr fun x _ => ?_))
    cases entB es x <;> rfl
/-- what holds in the midst of the turns of i: R is still to come, of S -/
structure Turn (es : List Ent) (L met : List Nat) (l0 ls : List Int) (i : Nat) (S R : List Nat) : Prop where
  suf : ∃ T, S = T ++ R
  done : ∀ o ∈ S, o ∉ R → lvN ls o = 0
  same : ∀ o, o ∈ R → lvN ls o = lvN l0 o
  out : ∀ o, o ∉ S → o ≠ i → lvN ls o = lvN l0 o
theorem mates_turn {es : List Ent} {ch : Ch} {L met : List Nat} {l0 ls : List Int} {i : Nat} {R : List Nat} (nd : L.Nodup) (hm : i ∉ met) (h : Turn es L met l0 ls i (partN es ch l0 i (othersN L met l0)) R) :
    matesN es L (met ++ [i]) ls i = ((othersN L met l0).filter fun o => entB es o != entB es i).filter fun o => decide (o ∈ R) := by
  have pp := part_perm es ch l0 i (C := othersN L met l0) (nd.filter _)
  unfold matesN
  show _ = ((L.filter _).filter _).filter _
  rw [List.filter_filter, List.filter_filter]
  refine List.filter_congr fun o ho => ?_
  by_cases hk : entB es o = entB es i
  · have : (entB es o != entB es i) = false := by simp [hk]
    rw [this]
    simp
  · have hk' : (entB es o != entB es i) = true := by simp [hk]
    have hoi : o ≠ i := fun z => hk (by rw [z])
    rw [hk']
    simp only [Bool.and_true, Bool.true_and]
    have hget : getN (met ++ [i]) ls o = if o ∈ met then lvN ls o else 0 := by
      unfold getN
      simp [hoi]
    rw [hget]
    by_cases hom : o ∈ met
    · rw [if_pos hom]
      simp only [hom, decide_true, Bool.true_and]
      by_cases hoR : o ∈ R
      · rw [h.same o hoR]
        simp [hoR]
      · by_cases hoS : o ∈ partN es ch l0 i (othersN L met l0)
        · rw [h.done o hoS hoR]
          simp [hoR]
        · have : ¬ 0 < lvN l0 o := fun z => hoS (pp.mem_iff.mpr (by
            rw [List.mem_filter]
            refine ⟨?_, hk'⟩
            unfold othersN
            rw [List.mem_filter]
            exact ⟨ho, by simp [hom, z]⟩))
          rw [h.out o hoS hoi]
          simp [this]
    · rw [if_neg hom]
      simp [hom]
theorem mate_head {es : List Ent} {ch : Ch} {L met : List Nat} {l0 ls : List Int} {i : Nat} {R : List Nat} (nd : L.Nodup) (hm : i ∉ met) (hnb : ∀ b, namedOf es i = some b → entB es b = true ∧ b ∈ L) (hni : namedOf es i ≠ none → entB es i = false)
    (h : Turn es L met l0 ls i (partN es ch l0 i (othersN L met l0)) R) : mateN es L (met ++ [i]) ls i ch = R.head? := by
  have hmates := mates_turn nd hm h
  have ndO : (othersN L met l0).Nodup := nd.filter _
  obtain ⟨T, hT⟩ := h.suf
  have hsuf : R.Sublist (partN es ch l0 i (othersN L met l0)) := by
    rw [hT]
    exact List.sublist_append_right _ _
  by_cases hb : entB es i = true
  · have hn : namedOf es i = none := by
      cases e : namedOf es i with
      | none => rfl
      | some b =>
        have := hni (by rw [e]; exact fun z => nomatch z)
        rw [hb] at this
        cases this
    unfold mateN restN
    rw [hn]
    simp only [hb, if_true]
    rw [hmates]
    have e : partN es ch l0 i (othersN L met l0) = (othersN L met l0).filter fun o => entB es o != entB es i := by
      unfold partN
      rw [if_pos hb, hb]
      refine List.filter_congr fun x _ => ?_
      cases entB es x <;> rfl
    rw [e] at hsuf
    rw [filter_sub hsuf (ndO.filter _)]
  · have hb : entB es i = false := by simpa using hb
    have hC : ((othersN L met l0).filter fun o => entB es o != entB es i) = (othersN L met l0).filter fun o => entB es o := by
      refine List.filter_congr fun x _ => ?_
      rw [hb]
      cases entB es x <;> rfl
    rw [hC] at hmates
    have ndC : ((othersN L met l0).filter fun o => entB es o).Nodup := ndO.filter _
    have rest : ∀ R', R'.Sublist (rankN ch l0 ((othersN L met l0).filter fun o => entB es o)) → R' = R → restN es L (met ++ [i]) ls i ch = R.head? := fun R' hs e => by
      subst e
      unfold restN
      rw [hb]
      simp only [Bool.false_eq_true, if_false]
      rw [hmates]
      exact pick_head ndC hs h.same
    have hp : partN es ch l0 i (othersN L met l0) = frontN (namedOf es i) (rankN ch l0 ((othersN L met l0).filter fun o => entB es o)) := by
      unfold partN
      rw [if_neg (by rw [hb]; decide)]
    cases hn : namedOf es i with
    | none =>
      rw [hn] at hp
      unfold mateN
      rw [hn]
      rw [hp] at hsuf
      exact rest R hsuf rfl
    | some b =>
      obtain ⟨hbb, hbL⟩ := hnb b hn
      rw [hn] at hp
      have hbi : b ≠ i := fun z => by
        rw [z, hb] at hbb
        cases hbb
      have hget : getN (met ++ [i]) ls b = if b ∈ met then lvN ls b else 0 := by
        unfold getN
        simp [hbi]
      unfold mateN
      rw [hn]
      simp only [hget]
      have hmem : b ∈ rankN ch l0 ((othersN L met l0).filter fun o => entB es o) ↔ b ∈ met ∧ 0 < lvN l0 b := by
        rw [(rank_perm ch l0 _).mem_iff, List.mem_filter]
        unfold othersN
        rw [List.mem_filter]
        simp [hbL, hbb]
      by_cases hin : b ∈ rankN ch l0 ((othersN L met l0).filter fun o => entB es o)
      · obtain ⟨hm1, hm2⟩ := hmem.mp hin
        rw [if_pos hm1]
        have hp2 : partN es ch l0 i (othersN L met l0) = b :: (rankN ch l0 ((othersN L met l0).filter fun o => entB es o)).filter (fun o => decide (o ≠ b)) := by
          rw [hp]
          exact if_pos hin
        cases T with
        | nil =>
          have hR : R = b :: (rankN ch l0 ((othersN L met l0).filter fun o => entB es o)).filter (fun o => decide (o ≠ b)) := by
            rw [← hp2, hT]
            rfl
          rw [h.same b (by rw [hR]; simp), if_pos hm2, hR]
          rfl
        | cons t T =>
          rw [hp2] at hT
          injection hT with h1 h2
          have h2 : (rankN ch l0 ((othersN L met l0).filter fun o => entB es o)).filter (fun o => decide (o ≠ b)) = T ++ R := h2
          have hbR : b ∉ R := fun z => by
            have : b ∈ T ++ R := List.mem_append_right _ z
            rw [← h2] at this
            have := (List.mem_filter.mp this).2
            simp at this
          rw [h.done b (by rw [hp2]; simp) hbR, if_neg (by decide)]
          refine rest R ?_ rfl
          have : R.Sublist (T ++ R) := List.sublist_append_right _ _
          rw [← h2] at this
          exact this.trans List.filter_sublist
      · have hp2 : partN es ch l0 i (othersN L met l0) = rankN ch l0 ((othersN L met l0).filter fun o => entB es o) := by
          rw [hp]
          exact if_neg hin
        have hz : ¬ 0 < (if b ∈ met then lvN ls b else 0) := fun z => by
          split at z
          · rename_i hm1
            have hbS : b ∉ partN es ch l0 i (othersN L met l0) := by
              rw [hp2]
              exact hin
            rw [h.out b hbS hbi] at z
            exact hin (hmem.mpr ⟨hm1, z⟩)
          · exact absurd z (by decide)
        rw [if_neg hz]
        rw [hp2] at hsuf
        exact rest R hsuf rfl
end VL

namespace VL
open PySem PySem.Spec PyProof.Rows L2 G
abbrev cI (C : List Nat) : List Int := C.map (fun k : Nat => (k : Int))
abbrev nD (C : List Nat) : List D := (cI C).map .int
abbrev lD (ls : List Int) : List D := ls.map .int
def chS : Ch → Str
  | .oldest => Str.ofString "oldest"
  | .newest => Str.ofString "newest"
  | .greatest => Str.ofString "greatest"
  | .least => Str.ofString "least"
abbrev chD (ch : Ch) : D := .str (chS ch)
theorem ch_shaped (ch : Ch) : SeqAt.shaped (chD ch) = true := by cases ch <;> decide +kernel
theorem ch_great (ch : Ch) : PyData.eqv (chD ch) (.str (Str.ofString "greatest")) = (match ch with | .greatest => true | _ => false) := by cases ch <;> decide +kernel
theorem ch_least (ch : Ch) : PyData.eqv (chD ch) (.str (Str.ofString "least")) = (match ch with | .least => true | _ => false) := by cases ch <;> decide +kernel
theorem ch_oldest (ch : Ch) : PyData.eqv (chD ch) (.str (Str.ofString "oldest")) = (match ch with | .oldest => true | _ => false) := by cases ch <;> decide +kernel
theorem intAt_lD {ls : List Int} {k : Nat} (h : k < ls.length) : intAt (lD ls) (k : Int) = some (lvN ls k) := by
  unfold intAt lvN
  rw [if_pos (by omega), Int.toNat_natCast, List.getElem?_map, List.getElem?_eq_getElem h, List.getD_eq_getElem?_getD, List.getElem?_eq_getElem h]
  rfl
theorem sort_up {ls : List Int} {C : List Nat} (h : ∀ k ∈ C, k < ls.length) : sortBy true (fun n => (intAt (lD ls) n).getD 0) (cI C) = cI (C.mergeSort (upN ls)) := by
  unfold sortBy
  rw [if_pos rfl]
  refine (List.map_mergeSort (fun a ha b hb => ?_)).symm
  show _ = decide ((intAt (lD ls) (b : Int)).getD 0 ≤ (intAt (lD ls) (a : Int)).getD 0)
  rw [intAt_lD (h a ha), intAt_lD (h b hb)]
  rfl
theorem sort_dn {ls : List Int} {C : List Nat} (h : ∀ k ∈ C, k < ls.length) : sortBy false (fun n => (intAt (lD ls) n).getD 0) (cI C) = cI (C.mergeSort (dnN ls)) := by
  unfold sortBy
  rw [if_neg (by decide)]
  refine (List.map_mergeSort (fun a ha b hb => ?_)).symm
  show _ = decide ((intAt (lD ls) (a : Int)).getD 0 ≤ (intAt (lD ls) (b : Int)).getD 0)
  rw [intAt_lD (h a ha), intAt_lD (h b hb)]
  rfl
theorem keys_there {ls : List Int} {C : List Nat} (h : ∀ k ∈ C, k < ls.length) : ∀ n ∈ cI C, (intAt (lD ls) n).isSome = true := fun n hn => by
  obtain ⟨k, hk, rfl⟩ := List.mem_map.mp hn
  rw [intAt_lD (h k hk)]
  rfl
theorem s_ranked {ls : List Int} {C : List Nat} {ch : Ch} (h : ∀ k ∈ C, k < ls.length) : O2 (C_ranked [.va (.list (nD C)), .ow (lD ls), .va (chD ch)]) fun r en => r = .list (nD (rankN ch ls C)) ∧ ∃ s0 s, en = s0 :: .ow (lD ls) :: s := by
  refine w_fn 3 ?_
  try simp only [List.length_cons, List.length_nil, Nat.reduceAdd, Nat.reduceSub, List.replicate_succ, List.replicate_zero, List.cons_append, List.nil_append]
  unfold f_ranked
  refine st_ ?_
  refine w_geq (ch_shaped ch) (by decide +kernel) ?_
  rw [ch_great]
  cases ch with
  | greatest =>
    refine st_ ?_
    refine ⟨_, _, rfl, rfl, keys_there h, ?_⟩
    refine st_ ?_
    exact ⟨by rw [sort_up h]; rfl, _, _, rfl⟩
  | least =>
    refine st_ ?_
    refine ⟨_, _, rfl, rfl, keys_there h, ?_⟩
    refine st_ ?_
    exact ⟨by rw [sort_dn h]; rfl, _, _, rfl⟩
  | oldest =>
    refine st_ ?_
    exact ⟨rfl, _, _, rfl⟩
  | newest =>
    refine st_ ?_
    refine ⟨_, rfl, ?_⟩
    refine st_ ?_
    exact ⟨by rw [show rankN .newest ls C = C.reverse from rfl, ← List.map_reverse, ← List.map_reverse], _, _, rfl⟩
end VL

namespace VL
open PySem PySem.Spec PyProof.Rows L2 G
def triD (t : Tri) : D := .tuple [.int t.1, .int t.2.1, .int t.2.2]
def ltT (a b : Tri) : Prop := a.1 < b.1 ∨ (a.1 = b.1 ∧ (a.2.1 < b.2.1 ∨ (a.2.1 = b.2.1 ∧ a.2.2 < b.2.2)))
instance (a b : Tri) : Decidable (ltT a b) := by unfold ltT; infer_instance
def leT (a b : Tri) : Bool := !decide (ltT b a)
theorem eqv_int (x y : Int) : PyData.eqv (.int x) (.int y) = decide (x = y) := by
  simp only [PyData.eqv]
  by_cases h : x = y <;> simp [h]
theorem lt_tri (a b : Tri) : PySem.W.dataLt (triD a) (triD b) = decide (ltT a b) := by
  unfold triD
  rw [PySem.W.dataLt_tuple, PySem.W.dataLt_cons (by rfl), PySem.W.dataLt_cons (by rfl), PySem.W.dataLt_cons (by rfl)]
  simp only [eqv_int, PySem.W.dataLt_int, decide_eq_true_eq]
  have e0 : PyProof.Rows.lexLt PyProof.Rows.itemOrd (PySem.W.keyToksAll []) (PySem.W.keyToksAll []) = false := by decide +kernel
  rw [e0]
  by_cases h1 : a.1 = b.1
  · rw [if_pos h1]
    by_cases h2 : a.2.1 = b.2.1
    · rw [if_pos h2]
      by_cases h3 : a.2.2 = b.2.2
      · rw [if_pos h3]
        symm
        exact decide_eq_false (by unfold ltT; omega)
      · rw [if_neg h3]
        exact decide_eq_decide.mpr (by unfold ltT; omega)
    · rw [if_neg h2]
      exact decide_eq_decide.mpr (by unfold ltT; omega)
  · rw [if_neg h1]
    exact decide_eq_decide.mpr (by unfold ltT; omega)
theorem leD_tri (a b : Tri) : leD (triD a) (triD b) = leT a b := by
  unfold leD leT
  rw [PySem.W.dataLe_eq]
  simp only [cond_false]
  rw [lt_tri]
theorem leT_iff {a b : Tri} : leT a b = true ↔ ¬ ltT b a := by simp [leT]
def sortT (ts : List Tri) : List Tri := ts.mergeSort leT
theorem sortT_perm (ts : List Tri) : (sortT ts).Perm ts := List.mergeSort_perm ts leT
theorem sortT_pw (ts : List Tri) : (sortT ts).Pairwise (fun a b => leT a b = true) :=
  List.pairwise_mergeSort (le := leT) (fun a b c h1 h2 => by rw [leT_iff] at *; unfold ltT at *; omega) (fun a b => by
    rw [Bool.or_eq_true, leT_iff, leT_iff]
    unfold ltT
    omega) ts
theorem sortD_tri (ts : List Tri) : sortD (ts.map triD) = (sortT ts).map triD := by
  unfold sortD sortT
  rw [List.map_mergeSort]
  intro a _ b _
  exact (leD_tri a b).symm
theorem goodS_tri {ts : List Tri} (h : ts.length ≤ sizeLine) : goodS (ts.map triD) = true := by
  unfold goodS
  simp only [Bool.and_eq_true, Bool.or_eq_true, decide_eq_true_eq, List.all_eq_true, List.length_map]
  refine ⟨⟨⟨h, fun d hd e he => ?_⟩, .inl fun d hd => ?_⟩, fun d hd => ?_⟩
  · rw [List.mem_map] at hd he
    obtain ⟨a, _, rfl⟩ := hd
    obtain ⟨b, _, rfl⟩ := he
    rfl
  · rw [List.mem_map] at hd
    obtain ⟨a, _, rfl⟩ := hd
    rfl
  · rw [List.mem_map] at hd
    obtain ⟨a, _, rfl⟩ := hd
    simp [triD, PyData.depth, PyData.depthAll]
theorem gSortA_tri {ts : List Tri} (h : ts.length ≤ sizeLine) : gSortA [.list (ts.map triD)] = some ((sortT ts).map triD) := by
  unfold gSortA
  cases ts with
  | nil =>
    simp [gSorted, intsOf, sortI, sortT]
  | cons t r =>
    have e : gSorted [.list ((t :: r).map triD)] = none := by
      unfold gSorted
      have e1 : intsOf ((t :: r).map triD) = none := rfl
      have e2 : pairsOf ((t :: r).map triD) = none := rfl
      simp only [e1, e2]
    simp only [e]
    rw [if_pos (goodS_tri h), sortD_tri]
end VL

namespace VL
open PySem PySem.Spec PyProof.Rows L2 G
theorem entB_at {es : List Ent} {k : Nat} {e : Ent} (h : es[k]? = some e) : entB es k = e.isBill := by simp [entB, h]
/-- a comprehension over places that keeps some -/
theorem filt_cI {C : List Nat} {q : Int → Option D} {c : Nat → Bool} (hq : ∀ k ∈ C, q (k : Int) = if c k = true then some (.int (k : Int)) else none) : (cI C).filterMap q = nD (C.filter c) := by
  induction C with
  | nil => rfl
  | cons k C ih =>
    have h1 := hq k (by simp)
    have h2 := ih fun x hx => hq x (List.mem_cons_of_mem _ hx)
    show ((k : Int) :: cI C).filterMap q = _
    rw [List.filterMap_cons, h1, List.filter_cons, h2]
    by_cases hc : c k = true <;> simp [hc]
theorem gIn_ints (b : Int) (ns : List Int) : gInL false (.int b) (.list (ns.map .int)) = some (.bool (decide (b ∈ ns))) := by
  show (if _ then _ else _) = _
  rw [if_pos ⟨by rfl, ints_shaped ns⟩]
  congr 2
  rw [if_neg (by decide)]
  induction ns with
  | nil => simp
  | cons n ns ih =>
    rw [List.map_cons, List.any_cons, ih, eqv_int]
    by_cases h : n = b
    · simp [h]
    · have : ¬ b = n := fun z => h z.symm
      simp [h, this]
theorem mem_cI {b : Nat} {C : List Nat} : ((b : Int) ∈ cI C) ↔ b ∈ C := by
  rw [List.mem_map]
  constructor
  · rintro ⟨k, hk, e⟩
    have : k = b := by omega
    rw [← this]
    exact hk
  · exact fun h => ⟨b, h, rfl⟩
theorem s_partners_of {es : List Ent} {ls : List Int} {ch : Ch} {i : Nat} {C : List Nat} {e : Ent} (he : es[i]? = some e) (hC : ∀ k ∈ C, k < es.length) (hl : ls.length = es.length) (hz : es.length ≤ 1000) (hCl : C.length ≤ 1000) :
    O2 (C_partners_of [.va (accD es), .va (.int i), .va (.list (nD C)), .ow (lD ls), .va (chD ch)]) fun r en => r = .list (nD (partN es ch ls i C)) ∧ ∃ s0 s1 s2 s, en = s0 :: s1 :: s2 :: .ow (lD ls) :: s := by
  have hs : ∀ n, n ≤ 1000 → n ≤ sizeLine := fun n h => Nat.le_trans h (by decide)
  have item : ∀ (c : Bool) (a : Int), a ∈ cI C → ∃ (k : Nat) (x : Ent), a = (k : Int) ∧ k ∈ C ∧ es[k]? = some x ∧ entB es k = x.isBill := fun c a ha => by
    obtain ⟨k, hk, rfl⟩ := List.mem_map.mp ha
    exact ⟨k, es[k]'(hC k hk), rfl, hk, List.getElem?_eq_getElem _, entB_at (List.getElem?_eq_getElem _)⟩
  refine w_fn 9 ?_
  try simp only [List.length_cons, List.length_nil, Nat.reduceAdd, Nat.reduceSub, List.replicate_succ, List.replicate_zero, List.cons_append, List.nil_append]
  unfold f_partners_of accD
  refine st_ ?_
  refine O1.of (atI_map he) ?_
  refine st_ ?_
  try simp only [List.set_cons_zero, List.set_cons_succ, List.map_cons, List.map_nil, mdSl, putBack, wipeE, permL, List.filterMap_cons, List.filterMap_nil, List.getElem?_cons_zero, List.getElem?_cons_succ]
  refine st_ ?_
  refine O1.of e.ix0 ?_
  refine st_ ?_
  refine w_geq e.word_shaped (by decide +kernel) ?_
  rw [e.eq_bill]
  refine st_ ?_
  refine ⟨fun hb => ?_, fun hb => ?_⟩
  · refine st_ ?_
    refine w_compD (q := fun a => if entB es a.toNat = true then none else some (.int a)) (hs _ (by rw [List.length_map]; exact hCl)) (fun a ha => ?_) ?_
    · obtain ⟨k, x, rfl, hk, hx, hbx⟩ := item true a ha
      refine st_ ?_
      refine O1.of (atI_map hx) ?_
      refine st_ ?_
      refine O1.of x.ix0 ?_
      refine st_ ?_
      refine w_gne x.word_shaped (by decide +kernel) ?_
      rw [x.eq_bill]
      refine st_ ?_
      rw [Int.toNat_natCast, hbx]
      refine ⟨fun h => ⟨?_, by first | rfl | trivial⟩, fun h => ?_⟩
      · have h : x.isBill = true := by simpa using h
        rw [h]
        rfl
      · have h : x.isBill = false := by simpa using h
        refine st_ ?_
        exact ⟨by rw [h]; rfl, by first | rfl | trivial⟩
    rw [filt_cI (c := fun o => !entB es o) (fun k hk => by
      rw [Int.toNat_natCast]
      cases entB es k <;> rfl)]
    refine st_ ?_
    refine ⟨?_, _, _, _, _, rfl⟩
    unfold partN
    rw [entB_at he, if_pos hb]
  · have hb' : entB es i = false := by rw [entB_at he]; exact hb
    refine st_ ?_
    try simp only [List.set_cons_zero, List.set_cons_succ, List.map_cons, List.map_nil, mdSl, putBack, wipeE, permL, List.filterMap_cons, List.filterMap_nil, List.getElem?_cons_zero, List.getElem?_cons_succ]
    refine w_compD (q := fun a => if entB es a.toNat = true then some (.int a) else none) (hs _ (by rw [List.length_map]; exact hCl)) (fun a ha => ?_) ?_
    · obtain ⟨k, x, rfl, hk, hx, hbx⟩ := item true a ha
      refine st_ ?_
      refine O1.of (atI_map hx) ?_
      refine st_ ?_
      refine O1.of x.ix0 ?_
      refine st_ ?_
      refine w_geq x.word_shaped (by decide +kernel) ?_
      rw [x.eq_bill]
      refine st_ ?_
      rw [Int.toNat_natCast, hbx]
      refine ⟨fun h => ⟨?_, by first | rfl | trivial⟩, fun h => ?_⟩
      · have h : x.isBill = false := h
        rw [h]
        rfl
      · have h : x.isBill = true := h
        refine st_ ?_
        exact ⟨by rw [h]; rfl, by first | rfl | trivial⟩
    rw [filt_cI (c := fun o => entB es o) (fun k hk => by rw [Int.toNat_natCast])]
    have hF : ∀ k ∈ C.filter (fun o => entB es o), k < ls.length := fun k hk => by
      rw [hl]
      exact hC k (List.mem_filter.mp hk).1
    have hp : partN es ch ls i C = frontN (namedOf es i) (rankN ch ls (C.filter fun o => entB es o)) := by
      unfold partN
      rw [if_neg (by rw [hb']; decide)]
    rw [hp]
    have hB : ∀ k ∈ rankN ch ls (C.filter fun o => entB es o), k ∈ C := fun k hk => (List.mem_filter.mp ((rank_perm ch ls _).mem_iff.mp hk)).1
    have hBl : (rankN ch ls (C.filter fun o => entB es o)).length ≤ 1000 := by
      rw [(rank_perm ch ls _).length_eq]
      exact Nat.le_trans (List.length_filter_le _ _) hCl
    refine st_ ?_
    try simp only [List.set_cons_zero, List.set_cons_succ, List.map_cons, List.map_nil, mdSl, putBack, wipeE, permL, List.filterMap_cons, List.filterMap_nil, List.getElem?_cons_zero, List.getElem?_cons_succ]
    refine (s_ranked hF).mono ?_
    rintro _ _ ⟨rfl, s0, s, rfl⟩
    generalize rankN ch ls (C.filter fun o => entB es o) = B at hB hBl
    refine st_ ?_
    try simp only [List.set_cons_zero, List.set_cons_succ, List.map_cons, List.map_nil, mdSl, putBack, wipeE, permL, List.filterMap_cons, List.filterMap_nil, List.getElem?_cons_zero, List.getElem?_cons_succ]
    refine O1.of e.ix0 ?_
    refine st_ ?_
    refine w_geq e.word_shaped (by decide +kernel) ?_
    rw [e.eq_named]
    refine st_ ?_
    cases e with
    | named d s b =>
      have hn : namedOf es i = some b := by simp [namedOf, he]
      rw [hn]
      refine ⟨fun _ => ?_, (fun z => nomatch z)⟩
      simp only [Ent.D]
      refine st_ ?_
      refine O1.of (gIn_ints _ _) ?_
      refine st_ ?_
      refine ⟨fun hin => ?_, fun hin => ?_⟩
      · have hin : b ∈ B := mem_cI.mp (of_decide_eq_true hin)
        refine st_ ?_
        refine w_compD (q := fun a => if a = (b : Int) then none else some (.int a)) (hs _ (by rw [List.length_map]; exact hBl)) (fun a ha => ?_) ?_
        · refine st_ ?_
          rw [eqv_int]
          refine st_ ?_
          refine ⟨fun h => ⟨?_, by first | rfl | trivial⟩, fun h => ?_⟩
          · have h : a = (b : Int) := by simpa using h
            rw [if_pos h]
          · have h : ¬ a = (b : Int) := by simpa using h
            refine st_ ?_
            exact ⟨by rw [if_neg h], by first | rfl | trivial⟩
        rw [filt_cI (c := fun o => decide (o ≠ b)) (fun k hk => by
          by_cases hkb : k = b
          · subst hkb
            simp
          · have : ¬ ((k : Int) = (b : Int)) := by omega
            simp [hkb, this])]
        refine st_ ?_
        refine O1.of (x := gAdd _ _) (a := .list (nD (frontN (some b) B))) (by
          show (if _ then _ else _) = _
          rw [if_pos (by
            simp only [List.length_cons, List.length_nil, List.length_map]
            have := List.length_filter_le (fun o => decide (o ≠ b)) B
            exact Nat.le_trans (show _ ≤ 1001 by omega) (by decide))]
          rw [show frontN (some b) B = b :: B.filter (fun o => decide (o ≠ b)) from if_pos hin]
          rfl) ?_
        exact ⟨rfl, _, _, _, _, rfl⟩
      · have hin : ¬ b ∈ B := fun z => absurd (mem_cI.mpr z) (of_decide_eq_false hin)
        refine st_ ?_
        refine ⟨?_, _, _, _, _, rfl⟩
        rw [show frontN (some b) B = B from if_neg hin]
    | bill d s => cases hb
    | pay d s =>
      have hn : namedOf es i = none := by simp [namedOf, he]
      rw [hn]
      refine ⟨(fun z => nomatch z), fun _ => ⟨(fun z => nomatch z), fun _ => ?_⟩⟩
      refine st_ ?_
      exact ⟨rfl, _, _, _, _, rfl⟩
    | struck =>
      have hn : namedOf es i = none := by simp [namedOf, he]
      rw [hn]
      refine ⟨(fun z => nomatch z), fun _ => ⟨(fun z => nomatch z), fun _ => ?_⟩⟩
      refine st_ ?_
      exact ⟨rfl, _, _, _, _, rfl⟩
end VL

namespace VL
open PySem PySem.Spec PyProof.Rows L2 G
def lineN (es : List Ent) : List Nat := (lineL es).map Int.toNat
theorem line_cI (es : List Ent) : lineL es = cI (lineN es) := by
  unfold lineN cI
  rw [List.map_map]
  conv => lhs; rw [← List.map_id (lineL es)]
  refine List.map_congr_left fun i hi => ?_
  obtain ⟨k, e, _, _, rfl⟩ := line_mem hi
  simp
theorem lineN_mem {es : List Ent} {k : Nat} (h : k ∈ lineN es) : ∃ e, es[k]? = some e ∧ e.isStruck = false := by
  unfold lineN at h
  rw [List.mem_map] at h
  obtain ⟨i, hi, rfl⟩ := h
  obtain ⟨k, e, h1, h2, rfl⟩ := line_mem hi
  exact ⟨e, by simpa using h1, h2⟩
theorem range_nodup_map {q : Nat → Option (Int × Int)} (h : ∀ k p, q k = some p → p.2 = (k : Int)) : ∀ n, (((List.range n).filterMap q).map (·.2)).Nodup := by
  intro n
  induction n with
  | zero => exact List.nodup_nil
  | succ n ih =>
    rw [List.range_succ, List.filterMap_append, List.map_append, List.nodup_append]
    refine ⟨ih, ?_, fun a ha b hb => ?_⟩
    · cases e : q n <;> simp [e]
    · rw [List.mem_map] at ha hb
      obtain ⟨p, hp, rfl⟩ := ha
      obtain ⟨r, hr, rfl⟩ := hb
      rw [List.mem_filterMap] at hp hr
      obtain ⟨k, hk, e1⟩ := hp
      obtain ⟨j, hj, e2⟩ := hr
      rw [List.mem_singleton] at hj
      subst hj
      rw [List.mem_range] at hk
      rw [h _ _ e1, h _ _ e2]
      omega
theorem line_nodup (es : List Ent) : (lineL es).Nodup := by
  unfold lineL
  refine (((sortP_perm (pairs es)).map (·.2)).nodup_iff).mpr (range_nodup_map (fun k p e => ?_) es.length)
  unfold dayIx at e
  split at e <;> first | cases e | skip
  split at e <;> first | cases e | skip
  rfl
theorem lineN_nodup (es : List Ent) : (lineN es).Nodup := by
  have h := line_nodup es
  rw [line_cI] at h
  exact List.Pairwise.of_map _ (fun a b hne e => hne (by rw [e])) h
theorem lineN_len (es : List Ent) : (lineN es).length ≤ es.length := by
  unfold lineN
  rw [List.length_map]
  exact line_len es
theorem lineN_lt {es : List Ent} {k : Nat} (h : k ∈ lineN es) : k < es.length := by
  obtain ⟨e, he, _⟩ := lineN_mem h
  exact (List.getElem?_eq_some_iff.mp he).1
theorem s_pair_row {es : List Ent} {i o : Nat} {m : Int} {e : Ent} (he : es[i]? = some e) : O2 (C_pair_row [.va (accD es), .va (.int i), .va (.int o), .va (.int m)]) fun r en => r = triD (rowN es i o m) := by
  refine w_fn 4 ?_
  try simp only [List.length_cons, List.length_nil, Nat.reduceAdd, Nat.reduceSub, List.replicate_succ, List.replicate_zero, List.cons_append, List.nil_append]
  unfold f_pair_row accD
  refine st_ ?_
  refine O1.of (atI_map he) ?_
  refine st_ ?_
  refine O1.of e.ix0 ?_
  refine st_ ?_
  refine w_geq e.word_shaped (by decide +kernel) ?_
  rw [e.eq_bill]
  unfold rowN
  rw [entB_at he]
  refine st_ ?_
  refine ⟨fun h => ?_, fun h => ?_⟩
  · rw [if_pos h]
    refine st_ ?_
    rfl
  · rw [if_neg (by rw [h]; decide)]
    refine st_ ?_
    rfl
theorem s_sum_of (e : Ent) : O2 (C_sum_of [.va e.D]) fun r en => r = .int e.sum := by
  refine w_fn 1 ?_
  try simp only [List.length_cons, List.length_nil, Nat.reduceAdd, Nat.reduceSub, List.replicate_succ, List.replicate_zero, List.cons_append, List.nil_append]
  unfold f_sum_of
  refine st_ ?_
  refine O1.of e.ix0 ?_
  refine st_ ?_
  refine w_geq e.word_shaped (by decide +kernel) ?_
  rw [e.eq_struck]
  refine st_ ?_
  refine ⟨fun h => ?_, fun h => ?_⟩
  · refine st_ ?_
    cases e <;> first | rfl | cases h
  · refine st_ ?_
    exact O1.of (e.ix2 h) rfl
/-! ### dicts by places -/
def dN (f : Nat → D) (met : List Nat) : DKV := met.map fun k : Nat => ([Sum.inl (k : Int)], f k)
theorem key_iff {k j : Nat} : ([Sum.inl (k : Int)] : List Key) = [Sum.inl (j : Int)] ↔ k = j := by
  constructor
  · intro h
    injection h with h _
    injection h with h
    omega
  · rintro rfl
    rfl
theorem dN_len (f : Nat → D) (met : List Nat) : (dN f met).length = met.length := by simp [dN]
theorem dN_congr {f g : Nat → D} {met : List Nat} (h : ∀ k ∈ met, f k = g k) : dN f met = dN g met := by
  unfold dN
  exact List.map_congr_left fun k hk => by rw [h k hk]
theorem val_dN (f : Nat → D) (met : List Nat) (k : Nat) : valD (dN f met) [.inl (k : Int)] = if k ∈ met then some (f k) else none := by
  unfold valD
  induction met with
  | nil => simp [dN]
  | cons j met ih =>
    unfold dN at ih ⊢
    rw [List.map_cons, List.find?_cons]
    by_cases h : j = k
    · subst h
      simp
    · have h1 : ¬ (([Sum.inl (j : Int)] : List Key) = [Sum.inl (k : Int)]) := fun z => h (key_iff.mp z)
      have h2 : ¬ k = j := fun z => h z.symm
      simp only [h1, decide_false, ih, List.mem_cons, h2, false_or]
theorem any_dN (f : Nat → D) (met : List Nat) (k : Nat) : ((dN f met).any fun p => decide (p.1 = [.inl (k : Int)])) = decide (k ∈ met) := by
  induction met with
  | nil => simp [dN]
  | cons j met ih =>
    unfold dN at ih ⊢
    rw [List.map_cons, List.any_cons, ih]
    by_cases h : j = k
    · subst h
      simp
    · have h1 : ¬ (([Sum.inl (j : Int)] : List Key) = [Sum.inl (k : Int)]) := fun z => h (key_iff.mp z)
      have h2 : ¬ k = j := fun z => h z.symm
      simp [h1, h2]
theorem put_new {f : Nat → D} {met : List Nat} {k : Nat} (h : k ∉ met) : putD (dN f met) [.inl (k : Int)] (f k) = dN f (met ++ [k]) := by
  unfold putD
  rw [any_dN, if_neg (by simpa using h)]
  simp [dN]
theorem put_old {f : Nat → D} {met : List Nat} {k : Nat} {d : D} (h : k ∈ met) : putD (dN f met) [.inl (k : Int)] d = dN (fun j => if j = k then d else f j) met := by
  unfold putD
  rw [any_dN, if_pos (by simpa using h)]
  unfold dN
  rw [List.map_map]
  refine List.map_congr_left fun j _ => ?_
  by_cases hj : j = k
  · subst hj
    simp
  · have h1 : ¬ (([Sum.inl (j : Int)] : List Key) = [Sum.inl (k : Int)]) := fun z => hj (key_iff.mp z)
    simp [h1, hj]
/-! ### numbers in a list of one's own, by places -/
theorem atI_lD {ls : List Int} {k : Nat} (h : k < ls.length) : L2.atI (lD ls) (k : Int) = some (.int (lvN ls k)) := by
  unfold L2.atI L2.ixN
  rw [if_pos (by omega), if_pos (by rw [List.length_map]; omega)]
  show (lD ls)[(k : Int).toNat]? = _
  rw [Int.toNat_natCast, List.getElem?_map, List.getElem?_eq_getElem h]
  simp [lvN, h]
theorem ixN_lD {ls : List Int} {k : Nat} (h : k < ls.length) : L2.ixN (lD ls).length (k : Int) = some k := by
  unfold L2.ixN
  rw [if_pos (by omega), if_pos (by rw [List.length_map]; omega)]
  simp
theorem set_lD (ls : List Int) (k : Nat) (v : Int) : (lD ls).set k (.int v) = lD (ls.set k v) := by
  simp [lD, List.map_set]
theorem x_getN {ls : List Int} {k : Nat} {o : Option Sl} {Q : D → Prop} (h1 : o = some (.ow (lD ls))) (hb : k < ls.length) (q : Q (.int (lvN ls k))) : ∃ z ds d, PyData.int (k : Int) = .int z ∧ o = some (.ow ds) ∧ L2.atI ds z = some d ∧ Q d :=
  ⟨_, _, _, rfl, h1, atI_lD hb, q⟩
theorem x_putN {ls : List Int} {k : Nat} {o : Option Sl} {Q : List D → Nat → Prop} (h1 : o = some (.ow (lD ls))) (hb : k < ls.length) (q : Q (lD ls) k) : ∃ z ds j, PyData.int (k : Int) = .int z ∧ o = some (.ow ds) ∧ L2.ixN ds.length z = some j ∧ Q ds j :=
  ⟨_, _, _, rfl, h1, ixN_lD hb, q⟩
end VL

namespace VL
open PySem PySem.Spec PyProof.Rows L2 G
/-- a walk over places that folds -/
theorem w_foldR {σ : Type} {body : D → En → Option Out} {QO : Out → Prop} (I : List Nat → σ → En → Prop) (step : σ → Nat → σ) : ∀ (W : List Nat) (st : σ) (en : En), I W st en →
    (∀ k W st en, I (k :: W) st en → O1 (body (.int (k : Int)) en) fun o => ∃ en', o = .nx en' ∧ I W (step st k) en') → (∀ en, I [] (W.foldl step st) en → QO (.nx en)) → O1 (forD body (nD W) en) QO
  | [], st, en, h, _, q => ⟨_, rfl, q en h⟩
  | k :: W, st, en, h, hb, q => by
    obtain ⟨o, h1, en1, rfl, h2⟩ := hb k W st en h
    obtain ⟨o2, h3, h4⟩ := w_foldR I step W (step st k) en1 h2 hb (fun en hI => q en hI)
    refine ⟨o2, ?_, h4⟩
    show forD body (.int (k : Int) :: nD W) en = _
    unfold forD
    rw [h1]
    exact h3
def walkI (es : List Ent) (dy : Bool) : List Int := if dy = true then lineL es else sortI (lineL es)
def walkN (es : List Ent) (dy : Bool) : List Nat := (walkI es dy).map Int.toNat
theorem walk_perm (es : List Ent) (dy : Bool) : (walkI es dy).Perm (lineL es) := by
  unfold walkI
  split
  · exact List.Perm.refl _
  · exact sortI_perm _
theorem walk_cI (es : List Ent) (dy : Bool) : walkI es dy = cI (walkN es dy) := by
  unfold walkN cI
  rw [List.map_map]
  conv => lhs; rw [← List.map_id (walkI es dy)]
  refine List.map_congr_left fun i hi => ?_
  obtain ⟨k, e, _, _, rfl⟩ := line_mem ((walk_perm es dy).mem_iff.mp hi)
  simp
theorem walkN_perm (es : List Ent) (dy : Bool) : (walkN es dy).Perm (lineN es) := (walk_perm es dy).map _
theorem walkN_nodup (es : List Ent) (dy : Bool) : (walkN es dy).Nodup := (walkN_perm es dy).nodup_iff.mpr (lineN_nodup es)
theorem walkN_mem {es : List Ent} {dy : Bool} {k : Nat} (h : k ∈ walkN es dy) : ∃ e, es[k]? = some e ∧ e.isStruck = false := lineN_mem ((walkN_perm es dy).mem_iff.mp h)
def sqS (dy : Bool) : Str := if dy = true then Str.ofString "days" else Str.ofString "entered"
def manD (dy : Bool) (ch : Ch) : D := .tuple [.str (sqS dy), chD ch]
def goneN (es : List Ent) (dy : Bool) (ch : Ch) : GSt := (walkN es dy).foldl (stepN es ch (lineN es)) ⟨es.map Ent.sum, [], []⟩
theorem part_sub {es : List Ent} {ch : Ch} {ls : List Int} {i : Nat} {C : List Nat} (nd : C.Nodup) {o : Nat} (h : o ∈ partN es ch ls i C) : o ∈ C ∧ o ≠ i := by
  have := (part_perm es ch ls i nd).mem_iff.mp h
  rw [List.mem_filter] at this
  refine ⟨this.1, fun z => ?_⟩
  have h2 := this.2
  rw [z] at h2
  simp at h2
theorem part_len {es : List Ent} {ch : Ch} {ls : List Int} {i : Nat} {C : List Nat} (nd : C.Nodup) : (partN es ch ls i C).length ≤ C.length := by
  rw [(part_perm es ch ls i nd).length_eq]
  exact List.length_filter_le _ _
theorem fold_rows (es : List Ent) (i : Nat) : ∀ (R : List Nat) (s : List Int × List Tri), (R.foldl (pairN es i) s).2.length ≤ s.2.length + R.length
  | [], s => Nat.le_refl _
  | o :: R, s => by
    have h := fold_rows es i R (pairN es i s o)
    have h2 : (pairN es i s o).2.length ≤ s.2.length + 1 := by
      unfold pairN
      split <;> simp
    rw [List.foldl_cons, List.length_cons]
    omega
theorem min_py (a b : Int) : gMin2 [.int a, .int b] = some (.int (minV a b)) := rfl
theorem s_gone {es : List Ent} {dy : Bool} {ch : Ch} (hz : es.length ≤ 1000) : O2 (C_gone_through [.va (accD es), .va (manD dy ch)]) fun r en => r = .tuple [.list ((goneN es dy ch).rows.map triD), .list (lD (goneN es dy ch).left)] := by
  have hs : ∀ n, n ≤ 1000 → n ≤ sizeLine := fun n h => Nat.le_trans h (by decide)
  have hL := lineN_len es
  refine w_fn 15 ?_
  try simp only [List.length_cons, List.length_nil, Nat.reduceAdd, Nat.reduceSub, List.replicate_succ, List.replicate_zero, List.cons_append, List.nil_append]
  unfold f_gone_through manD
  refine st_ ?_
  try simp only [List.set_cons_zero, List.set_cons_succ, List.map_cons, List.map_nil, mdSl, putBack, wipeE, permL, List.filterMap_cons, List.filterMap_nil, List.getElem?_cons_zero, List.getElem?_cons_succ]
  refine st_ ?_
  try simp only [List.set_cons_zero, List.set_cons_succ, List.map_cons, List.map_nil, mdSl, putBack, wipeE, permL, List.filterMap_cons, List.filterMap_nil, List.getElem?_cons_zero, List.getElem?_cons_succ]
  refine (s_along (es := es) hz).mono ?_
  rintro _ _ rfl
  refine thenQ_nx ?_
  try simp only [List.set_cons_zero, List.set_cons_succ, List.map_cons, List.map_nil, mdSl, putBack, wipeE, permL, List.filterMap_cons, List.filterMap_nil, List.getElem?_cons_zero, List.getElem?_cons_succ]
  refine w_seq ?_
  refine w_set ?_
  refine O2.mono (Q := fun d en => d = .list ((walkI es dy).map PyData.int) ∧ en = [.va (accD es), .va (.tuple [.str (sqS dy), chD ch]), .va (.str (sqS dy)), .va (chD ch), .va (.list ((lineL es).map PyData.int)), .un, .un, .un, .un, .un, .un, .un, .un, .un, .un]) ?_ ?_
  · cases dy with
    | true =>
      refine st_ ?_
      exact ⟨rfl, rfl⟩
    | false =>
      refine st_ ?_
      refine O1.of (gSortA_ints _) ?_
      exact ⟨rfl, rfl⟩
  rintro _ _ ⟨rfl, rfl⟩
  try simp only [List.set_cons_zero, List.set_cons_succ, List.map_cons, List.map_nil, mdSl, putBack, wipeE, permL, List.filterMap_cons, List.filterMap_nil, List.getElem?_cons_zero, List.getElem?_cons_succ]
  unfold accD
  refine st_ ?_
  refine w_compD (e := Ent.D) (q := fun e => some (.int e.sum)) (hs _ hz) (fun e he => ?_) ?_
  · refine st_ ?_
    try simp only [List.set_cons_zero, List.set_cons_succ, List.map_cons, List.map_nil, mdSl, putBack, wipeE, permL, List.filterMap_cons, List.filterMap_nil, List.getElem?_cons_zero, List.getElem?_cons_succ]
    refine (s_sum_of e).mono ?_
    rintro _ _ rfl
    exact ⟨rfl, by first | rfl | trivial⟩
  rw [List.filterMap_eq_map', show es.map (fun e => PyData.int e.sum) = lD (es.map Ent.sum) by rw [lD, List.map_map]; rfl]
  refine st_ ?_
  try simp only [List.set_cons_zero, List.set_cons_succ, List.map_cons, List.map_nil, mdSl, putBack, wipeE, permL, List.filterMap_cons, List.filterMap_nil, List.getElem?_cons_zero, List.getElem?_cons_succ]
  refine st_ ?_
  try simp only [List.set_cons_zero, List.set_cons_succ, List.map_cons, List.map_nil, mdSl, putBack, wipeE, permL, List.filterMap_cons, List.filterMap_nil, List.getElem?_cons_zero, List.getElem?_cons_succ]
  refine st_ ?_
  rw [show (walkI es dy).map PyData.int = nD (walkN es dy) by rw [walk_cI], line_cI es]
  have hLn : (cI (lineN es)).length ≤ 1000 := by
    rw [List.length_map]
    omega
  refine w_foldR (fun (W : List Nat) (st : GSt) en => ∃ s9 s10 s11 s12 s13 s14 : Sl, en = [Sl.va (PyData.tuple (List.map Ent.D es)), Sl.va (PyData.tuple [PyData.str (sqS dy), chD ch]), Sl.va (PyData.str (sqS dy)), Sl.va (chD ch), Sl.va (PyData.list (List.map PyData.int (cI (lineN es)))),
    Sl.va (PyData.list (nD (walkN es dy))), Sl.ow (lD st.left), Sl.ow (st.rows.map triD), Sl.dc ⟨false, false⟩ (dN (fun _ => .bool true) st.met), s9, s10, s11, s12, s13, s14] ∧ st.left.length = es.length ∧ st.rows.length + 1000 * W.length ≤ 1000000 ∧ (∀ k ∈ W, k ∉ st.met) ∧ W.Nodup ∧
    (∀ k ∈ W, ∃ e, es[k]? = some e) ∧ st.met.length + W.length ≤ 1000) (stepN es ch (lineN es)) _ ⟨es.map Ent.sum, [], []⟩ _ ⟨_, _, _, _, _, _, rfl, by simp, ?_, (fun _ _ z => nomatch z), walkN_nodup es dy, fun k hk => (walkN_mem hk).imp fun _ h => h.1, ?_⟩ (fun i W st en hI => ?_) fun en hI => ?_
  · have : (walkN es dy).length ≤ 1000 := by
      rw [(walkN_perm es dy).length_eq]
      omega
    simp only [List.length_nil]
    omega
  · rw [(walkN_perm es dy).length_eq]
    simp only [List.length_nil]
    omega
  · obtain ⟨s9, s10, s11, s12, s13, s14, rfl, hl, hr, hm, nd, hes, hml⟩ := hI
    obtain ⟨e, he⟩ := hes i (by simp)
    have him := hm i (by simp)
    have hie := (List.getElem?_eq_some_iff.mp he).1
    refine w_turn ?_
    refine st_ ?_
    refine w_compD (q := fun a => if decide (a.toNat ∈ st.met) && decide (0 < lvN st.left a.toNat) then some (.int a) else none) (hs _ hLn) (fun a ha => ?_) ?_
    · obtain ⟨k, hk, rfl⟩ := List.mem_map.mp ha
      have hk := lineN_lt hk
      refine st_ ?_
      refine ⟨⟨false, false⟩, _, [.inl (k : Int)], rfl, rfl, ?_⟩
      rw [val_dN]
      refine st_ ?_
      rw [Int.toNat_natCast]
      by_cases h1 : k ∈ st.met
      · rw [if_pos h1]
        refine st_ ?_
        refine x_getN rfl (by rw [hl]; exact hk) ?_
        refine st_ ?_
        refine ⟨fun h => ⟨?_, by first | rfl | trivial⟩, fun h => ?_⟩
        · rw [if_neg]
          rw [h]
          simp
        · refine st_ ?_
          refine ⟨?_, by first | rfl | trivial⟩
          rw [if_pos]
          rw [h]
          simp [h1]
      · rw [if_neg h1]
        refine st_ ?_
        refine ⟨?_, by first | rfl | trivial⟩
        rw [if_neg]
        simp [h1]
    rw [filt_cI (c := fun o => decide (o ∈ st.met) && decide (0 < lvN st.left o)) (fun k hk => by rw [Int.toNat_natCast]), show (lineN es).filter (fun o => decide (o ∈ st.met) && decide (0 < lvN st.left o)) = othersN (lineN es) st.met st.left from rfl]
    have ndO : (othersN (lineN es) st.met st.left).Nodup := (lineN_nodup es).filter _
    have hOl : (othersN (lineN es) st.met st.left).length ≤ 1000 := Nat.le_trans (List.length_filter_le _ _) (by omega)
    have hOs : ∀ k ∈ othersN (lineN es) st.met st.left, k < es.length := fun k hk => lineN_lt (List.mem_filter.mp hk).1
    refine st_ ?_
    try simp only [List.set_cons_zero, List.set_cons_succ, List.map_cons, List.map_nil, mdSl, putBack, wipeE, permL, List.filterMap_cons, List.filterMap_nil, List.getElem?_cons_zero, List.getElem?_cons_succ]
    refine st_ ?_
    try simp only [List.set_cons_zero, List.set_cons_succ, List.map_cons, List.map_nil, mdSl, putBack, wipeE, permL, List.filterMap_cons, List.filterMap_nil, List.getElem?_cons_zero, List.getElem?_cons_succ]
    refine (s_partners_of he hOs hl hz hOl).mono ?_
    rintro _ _ ⟨rfl, t0, t1, t2, t, rfl⟩
    have hPl : (partN es ch st.left i (othersN (lineN es) st.met st.left)).length ≤ 1000 := Nat.le_trans (part_len ndO) hOl
    have hPs : ∀ o ∈ partN es ch st.left i (othersN (lineN es) st.met st.left), o < es.length ∧ o ≠ i := fun o ho => by
      obtain ⟨h1, h2⟩ := part_sub ndO ho
      exact ⟨hOs o h1, h2⟩
    have hstep : stepN es ch (lineN es) st i = ⟨((partN es ch st.left i (othersN (lineN es) st.met st.left)).foldl (pairN es i) (st.left, st.rows)).1, ((partN es ch st.left i (othersN (lineN es) st.met st.left)).foldl (pairN es i) (st.left, st.rows)).2, st.met ++ [i]⟩ := rfl
    generalize partN es ch st.left i (othersN (lineN es) st.met st.left) = R at hPl hPs hstep
    refine st_ ?_
    try simp only [List.set_cons_zero, List.set_cons_succ, List.map_cons, List.map_nil, mdSl, putBack, wipeE, permL, List.filterMap_cons, List.filterMap_nil, List.getElem?_cons_zero, List.getElem?_cons_succ]
    refine st_ ?_
    try simp only [List.set_cons_zero, List.set_cons_succ, List.map_cons, List.map_nil, mdSl, putBack, wipeE, permL, List.filterMap_cons, List.filterMap_nil, List.getElem?_cons_zero, List.getElem?_cons_succ]
    refine w_foldR (fun (R' : List Nat) (s : List Int × List Tri) en => ∃ s12 s14 : Sl, en = [Sl.va (PyData.tuple (List.map Ent.D es)), Sl.va (PyData.tuple [PyData.str (sqS dy), chD ch]), Sl.va (PyData.str (sqS dy)), Sl.va (chD ch), Sl.va (PyData.list (List.map PyData.int (cI (lineN es)))),
      Sl.va (PyData.list (nD (walkN es dy))), Sl.ow (lD s.1), Sl.ow (s.2.map triD), Sl.dc ⟨false, false⟩ (dN (fun _ => .bool true) st.met), .va (.int (i : Int)), .va (.list (nD (othersN (lineN es) st.met st.left))), .va (.list (nD R)), s12, s13, s14] ∧ s.1.length = es.length ∧ s.2.length + R'.length ≤ 1000000 ∧ ∀ o ∈ R', o < es.length ∧ o ≠ i)
      (pairN es i) R (st.left, st.rows) _ ⟨_, _, rfl, hl, by simp only [List.length_cons] at hr; dsimp only; omega, hPs⟩ (fun o R' s en hI => ?_) fun en hI => ?_
    · obtain ⟨s12, s14, rfl, hl2, hr2, hR⟩ := hI
      obtain ⟨ho, hoi⟩ := hR o (by simp)
      have hlo : o < s.1.length := by rw [hl2]; exact ho
      have hli : i < s.1.length := by rw [hl2]; exact hie
      refine w_turn ?_
      refine st_ ?_
      try simp only [List.set_cons_zero, List.set_cons_succ, List.map_cons, List.map_nil, mdSl, putBack, wipeE, permL, List.filterMap_cons, List.filterMap_nil, List.getElem?_cons_zero, List.getElem?_cons_succ]
      refine st_ ?_
      refine x_getN rfl hli ?_
      refine st_ ?_
      refine x_getN rfl hlo ?_
      refine st_ ?_
      try simp only [List.set_cons_zero, List.set_cons_succ, List.map_cons, List.map_nil, mdSl, putBack, wipeE, permL, List.filterMap_cons, List.filterMap_nil, List.getElem?_cons_zero, List.getElem?_cons_succ]
      rw [show (if lvN s.1 o < lvN s.1 i then lvN s.1 o else lvN s.1 i) = minV (lvN s.1 i) (lvN s.1 o) from rfl]
      have hp : pairN es i s o = if 0 < minV (lvN s.1 i) (lvN s.1 o) then ((s.1.set i (lvN s.1 i - minV (lvN s.1 i) (lvN s.1 o))).set o (lvN s.1 o - minV (lvN s.1 i) (lvN s.1 o)), s.2 ++ [rowN es i o (minV (lvN s.1 i) (lvN s.1 o))]) else s := rfl
      generalize minV (lvN s.1 i) (lvN s.1 o) = m at hp
      refine ⟨fun h => ?_, fun h => ?_⟩
      · have h : 0 < m := of_decide_eq_true h
        rw [if_pos h] at hp
        refine st_ ?_
        refine x_getN rfl hli ?_
        refine st_ ?_
        refine x_putN rfl hli ?_
        rw [set_lD]
        have hl3 : (s.1.set i (lvN s.1 i - m)).length = es.length := by rw [List.length_set, hl2]
        have hlo3 : o < (s.1.set i (lvN s.1 i - m)).length := by rw [hl3]; exact ho
        try simp only [List.set_cons_zero, List.set_cons_succ, List.map_cons, List.map_nil, mdSl, putBack, wipeE, permL, List.filterMap_cons, List.filterMap_nil, List.getElem?_cons_zero, List.getElem?_cons_succ]
        refine st_ ?_
        refine x_getN rfl hlo3 ?_
        rw [lvN_set _ _ _ _ hli, if_neg hoi]
        refine st_ ?_
        refine x_putN rfl hlo3 ?_
        rw [set_lD]
        try simp only [List.set_cons_zero, List.set_cons_succ, List.map_cons, List.map_nil, mdSl, putBack, wipeE, permL, List.filterMap_cons, List.filterMap_nil, List.getElem?_cons_zero, List.getElem?_cons_succ]
        refine st_ ?_
        try simp only [List.set_cons_zero, List.set_cons_succ, List.map_cons, List.map_nil, mdSl, putBack, wipeE, permL, List.filterMap_cons, List.filterMap_nil, List.getElem?_cons_zero, List.getElem?_cons_succ]
        refine (s_pair_row he).mono ?_
        rintro _ _ rfl
        refine st_ ?_
        refine ⟨by rw [List.length_map]; exact Nat.lt_of_lt_of_le (show s.2.length < 1000001 by omega) (by decide), ?_⟩
        rw [hp]
        refine ⟨_, rfl, _, _, by rw [List.map_append]; rfl, by rw [List.length_set, hl3], ?_, fun x hx => hR x (List.mem_cons_of_mem _ hx)⟩
        simp only [List.length_append, List.length_cons, List.length_nil] at hr2 ⊢
        omega
      · have h : ¬ 0 < m := of_decide_eq_false h
        rw [if_neg h] at hp
        refine st_ ?_
        rw [hp]
        refine ⟨_, rfl, _, _, rfl, hl2, ?_, fun x hx => hR x (List.mem_cons_of_mem _ hx)⟩
        simp only [List.length_cons] at hr2
        omega
    · obtain ⟨s12, s14, rfl, hl2, hr2, _⟩ := hI
      refine st_ ?_
      refine ⟨false, _, [.inl (i : Int)], rfl, rfl, by rw [dN_len]; exact Nat.lt_of_lt_of_le (show st.met.length < 1001 by omega) (by decide), ?_⟩
      rw [put_new (f := fun _ => PyData.bool true) him]
      have hfr := fold_rows es i R (st.left, st.rows)
      rw [hstep]
      refine ⟨_, rfl, _, _, _, _, _, _, rfl, hl2, ?_, fun k hk => ?_, (List.nodup_cons.mp nd).2, fun k hk => hes k (List.mem_cons_of_mem _ hk), ?_⟩
      · dsimp only at hfr ⊢
        simp only [List.length_cons] at hr
        omega
      · rw [List.mem_append, List.mem_singleton]
        rintro (z | z)
        · exact hm k (List.mem_cons_of_mem _ hk) z
        · rw [z] at hk
          exact (List.nodup_cons.mp nd).1 hk
      · simp only [List.length_append, List.length_cons, List.length_nil] at hml ⊢
        omega
  · obtain ⟨s9, s10, s11, s12, s13, s14, rfl, _, _, _, _, _, _⟩ := hI
    refine st_ ?_
    rfl
end VL

namespace VL
open PySem PySem.Spec PyProof.Rows L2 G
def sumAt (es : List Ent) (k : Nat) : Int := match es[k]? with
  | some e => e.sum
  | none => 0
theorem pairN_lv {es : List Ent} {i o k : Nat} {s : List Int × List Tri} (hi : i < s.1.length) (ho : o < s.1.length) (hoi : o ≠ i) : lvN (pairN es i s o).1 k =
    if 0 < minV (lvN s.1 i) (lvN s.1 o) then (if k = o then lvN s.1 o - minV (lvN s.1 i) (lvN s.1 o) else if k = i then lvN s.1 i - minV (lvN s.1 i) (lvN s.1 o) else lvN s.1 k) else lvN s.1 k := by
  unfold pairN
  split
  · dsimp only
    rw [lvN_set _ _ _ _ (by rw [List.length_set]; exact ho), lvN_set _ _ _ _ hi]
  · rfl
theorem fold_out {es : List Ent} {i k : Nat} : ∀ (R : List Nat) (s : List Int × List Tri), i < s.1.length → (∀ o ∈ R, o < s.1.length ∧ o ≠ i) → k ≠ i → k ∉ R → lvN (R.foldl (pairN es i) s).1 k = lvN s.1 k
  | [], s, _, _, _, _ => rfl
  | o :: R, s, hi, hR, hk, hn => by
    obtain ⟨ho, hoi⟩ := hR o (by simp)
    rw [List.foldl_cons, fold_out R (pairN es i s o) (by rw [pairN_len]; exact hi) (fun x hx => by rw [pairN_len]; exact hR x (List.mem_cons_of_mem _ hx)) hk (fun z => hn (List.mem_cons_of_mem _ z)), pairN_lv hi ho hoi]
    have : k ≠ o := fun z => hn (by rw [z]; simp)
    split <;> first | rfl | simp [this, hk]
theorem minV_le (a b : Int) : minV a b ≤ a ∧ minV a b ≤ b ∧ (minV a b = a ∨ minV a b = b) := by
  unfold minV
  split <;> omega
theorem fold_nn {es : List Ent} {i : Nat} : ∀ (R : List Nat) (s : List Int × List Tri), i < s.1.length → (∀ o ∈ R, o < s.1.length ∧ o ≠ i) → (∀ k, 0 ≤ lvN s.1 k) → ∀ k, 0 ≤ lvN (R.foldl (pairN es i) s).1 k
  | [], s, _, _, h => h
  | o :: R, s, hi, hR, h => by
    obtain ⟨ho, hoi⟩ := hR o (by simp)
    rw [List.foldl_cons]
    refine fold_nn R (pairN es i s o) (by rw [pairN_len]; exact hi) (fun x hx => by rw [pairN_len]; exact hR x (List.mem_cons_of_mem _ hx)) fun k => ?_
    rw [pairN_lv hi ho hoi]
    have := minV_le (lvN s.1 i) (lvN s.1 o)
    have h1 := h k
    split
    · split
      · omega
      · split <;> omega
    · exact h1
/-- one turn of the law's, where the choice falls on o -/
theorem turn_next {es : List Ent} {L met : List Nat} {l0 : List Int} {s : List Int × List Tri} {i o : Nat} {S R : List Nat} (hi : i < s.1.length) (ho : o < s.1.length) (hoi : o ≠ i) (nd : S.Nodup) (hiS : i ∉ S) (h : Turn es L met l0 s.1 i S (o :: R)) (hpi : 0 < lvN s.1 i) (hpo : 0 < lvN s.1 o) :
    lvN (pairN es i s o).1 i = 0 ∨ Turn es L met l0 (pairN es i s o).1 i S R := by
  have hm := minV_le (lvN s.1 i) (lvN s.1 o)
  have hpos : 0 < minV (lvN s.1 i) (lvN s.1 o) := by
    rcases hm.2.2 with z | z <;> rw [z] <;> assumption
  have hlv : ∀ k, lvN (pairN es i s o).1 k = if k = o then lvN s.1 o - minV (lvN s.1 i) (lvN s.1 o) else if k = i then lvN s.1 i - minV (lvN s.1 i) (lvN s.1 o) else lvN s.1 k := fun k => by
    rw [pairN_lv hi ho hoi, if_pos hpos]
  rcases hm.2.2 with z | z
  · left
    rw [hlv, if_neg (fun z => hoi z.symm), if_pos rfl, z]
    omega
  · right
    obtain ⟨T, hT⟩ := h.suf
    have ndR : (o :: R).Nodup := by
      rw [hT] at nd
      exact (List.nodup_append.mp nd).2.1
    refine ⟨⟨T ++ [o], by rw [hT]; simp⟩, fun k hk hkR => ?_, fun k hk => ?_, fun k hk hki => ?_⟩
    · rw [hlv]
      by_cases e : k = o
      · rw [if_pos e, z]
        omega
      · have hki : k ≠ i := fun z => hiS (by rw [← z]; exact hk)
        rw [if_neg e, if_neg hki]
        exact h.done k hk fun z => (List.mem_cons.mp z).elim e hkR
    · have e : k ≠ o := fun z => (List.nodup_cons.mp ndR).1 (by rw [← z]; exact hk)
      have hkS : k ∈ S := by
        rw [hT]
        exact List.mem_append_right _ (List.mem_cons_of_mem _ hk)
      have hki : k ≠ i := fun z => hiS (by rw [← z]; exact hkS)
      rw [hlv, if_neg e, if_neg hki]
      exact h.same k (List.mem_cons_of_mem _ hk)
    · have e : k ≠ o := fun z => hk (by rw [z, hT]; simp)
      rw [hlv, if_neg e, if_neg hki]
      exact h.out k hk hki
end VL

namespace VL
open PySem PySem.Spec PyProof.Rows L2 G
theorem rows_cap {n : Nat} (h : n ≤ 1000000) : n < sizeLine := Nat.lt_of_le_of_lt h (by decide)
theorem lv_sums {es : List Ent} {k : Nat} : lvN (es.map Ent.sum) k = sumAt es k := by
  unfold lvN sumAt
  rw [List.getD_eq_getElem?_getD, List.getElem?_map]
  cases es[k]? <;> rfl
theorem sum_nn {es : List Ent} (h : AccOk es) (k : Nat) : 0 ≤ sumAt es k := by
  unfold sumAt
  cases e : es[k]? with
  | none => exact Int.le_refl _
  | some x =>
    have hx := h x (List.mem_of_getElem? e)
    cases x with
    | bill d s => have := hx.2.2.1; show 0 ≤ s; omega
    | pay d s => have := hx.2.2.1; show 0 ≤ s; omega
    | named d s b => have := hx.1.2.2.1; show 0 ≤ s; omega
    | struck => exact Int.le_refl _
theorem lineN_has {es : List Ent} {k : Nat} {e : Ent} (h : es[k]? = some e) (hs : e.isStruck = false) : k ∈ lineN es := by
  unfold lineN lineL
  rw [List.mem_map]
  refine ⟨(k : Int), ?_, by simp⟩
  rw [((sortP_perm (pairs es)).map (·.2)).mem_iff, List.mem_map]
  refine ⟨(e.day, (k : Int)), ?_, rfl⟩
  unfold pairs
  rw [List.mem_filterMap]
  refine ⟨k, List.mem_range.mpr (List.getElem?_eq_some_iff.mp h).1, ?_⟩
  unfold dayIx
  rw [h]
  simp [hs]
theorem named_bill {es : List Ent} (h : AccOk es) {i b : Nat} (e : namedOf es i = some b) : entB es b = true ∧ b ∈ lineN es := by
  unfold namedOf at e
  split at e <;> first | cases e | skip
  rename_i d s hx
  obtain ⟨_, d', s', h1, _⟩ := h _ (List.mem_of_getElem? hx)
  exact ⟨by rw [entB_at h1]; rfl, lineN_has h1 rfl⟩
end VL

namespace VL
open PySem PySem.Spec PyProof.Rows L2 G
/-! ### what is left, and what is laid: pure -/
def sumN (f : Nat → Int) (L : List Nat) : Int := (L.map f).sum
theorem sumN_cons (f : Nat → Int) (a : Nat) (L : List Nat) : sumN f (a :: L) = f a + sumN f L := by simp [sumN]
theorem sumN_app (f : Nat → Int) (L M : List Nat) : sumN f (L ++ M) = sumN f L + sumN f M := by simp [sumN, List.sum_append]
theorem sumN_perm (f : Nat → Int) {L M : List Nat} (h : L.Perm M) : sumN f L = sumN f M := by
  induction h with
  | nil => rfl
  | cons a _ ih => rw [sumN_cons, sumN_cons, ih]
  | swap a b l =>
    simp only [sumN_cons]
    omega
  | trans _ _ h1 h2 => rw [h1, h2]
theorem sumN_congr {f g : Nat → Int} : ∀ {L : List Nat}, (∀ k ∈ L, f k = g k) → sumN f L = sumN g L
  | [], _ => rfl
  | a :: L, h => by
    rw [sumN_cons, sumN_cons, h a (by simp), sumN_congr fun k hk => h k (List.mem_cons_of_mem _ hk)]
theorem sumN_filter (f : Nat → Int) (c : Nat → Bool) : ∀ L : List Nat, sumN f (L.filter c) = sumN (fun k => if c k = true then f k else 0) L
  | [] => rfl
  | a :: L => by
    rw [List.filter_cons, sumN_cons, ← sumN_filter f c L]
    by_cases h : c a = true
    · rw [if_pos h, if_pos h, sumN_cons]
    · rw [if_neg h, if_neg h]
      omega
theorem sumN_upd {f g : Nat → Int} {i : Nat} : ∀ {L : List Nat}, L.Nodup → i ∈ L → (∀ k ∈ L, k ≠ i → g k = f k) → sumN g L = sumN f L + (g i - f i)
  | [], _, h, _ => nomatch h
  | a :: L, nd, h, hk => by
    have n := List.nodup_cons.mp nd
    rw [sumN_cons, sumN_cons]
    by_cases e : a = i
    · subst e
      rw [sumN_congr (g := f) fun k hk2 => hk k (List.mem_cons_of_mem _ hk2) fun z => n.1 (by rw [← z]; exact hk2)]
      omega
    · have hi : i ∈ L := by
        rcases List.mem_cons.mp h with z | z
        · exact absurd z.symm e
        · exact z
      rw [hk a (by simp) e, sumN_upd n.2 hi fun k hk2 => hk k (List.mem_cons_of_mem _ hk2)]
      omega
theorem sumN_nn {f : Nat → Int} : ∀ {L : List Nat}, (∀ k ∈ L, 0 ≤ f k) → 0 ≤ sumN f L
  | [], _ => Int.le_refl _
  | a :: L, h => by
    have h1 := h a (by simp)
    have h2 := sumN_nn fun k hk => h k (List.mem_cons_of_mem _ hk)
    rw [sumN_cons]
    omega
theorem sumN_zero {f : Nat → Int} : ∀ {L : List Nat}, (∀ k ∈ L, f k = 0) → sumN f L = 0
  | [], _ => rfl
  | a :: L, h => by rw [sumN_cons, h a (by simp), sumN_zero fun k hk => h k (List.mem_cons_of_mem _ hk)]; rfl
theorem sumN_pos {f : Nat → Int} : ∀ {L : List Nat}, 0 < sumN f L → ∃ k ∈ L, 0 < f k
  | [], h => absurd h (Int.lt_irrefl 0)
  | a :: L, h => by
    rw [sumN_cons] at h
    by_cases ha : 0 < f a
    · exact ⟨a, by simp, ha⟩
    · obtain ⟨k, hk, h2⟩ := sumN_pos (f := f) (L := L) (by omega)
      exact ⟨k, List.mem_cons_of_mem _ hk, h2⟩
theorem sumN_sub (f g : Nat → Int) : ∀ L : List Nat, sumN (fun k => f k - g k) L = sumN f L - sumN g L
  | [] => rfl
  | a :: L => by
    simp only [sumN_cons, sumN_sub f g L]
    omega
/-- what is laid on k -/
def onT (k : Nat) (t : Tri) : Int := if t.1 = (k : Int) ∨ t.2.1 = (k : Int) then t.2.2 else 0
def onK (rows : List Tri) (k : Nat) : Int := (rows.map (onT k)).sum
def sgB (es : List Ent) (k : Nat) : Int := if entB es k = true then 1 else -1
def sgS (es : List Ent) (ls : List Int) : Int := sumN (fun k => sgB es k * lvN ls k) (List.range es.length)
theorem onT_row (es : List Ent) (i o k : Nat) (m : Int) : onT k (rowN es i o m) = if k = i ∨ k = o then m else 0 := by
  unfold onT rowN
  by_cases h1 : k = i
  · subst h1
    split <;> simp
  · have h3 : ¬ (i : Int) = (k : Int) := by omega
    by_cases h2 : k = o
    · subst h2
      split <;> simp
    · have h4 : ¬ (o : Int) = (k : Int) := by omega
      split <;> simp [h1, h2, h3, h4]
theorem pair_cons {es : List Ent} {i o k : Nat} {s : List Int × List Tri} (hi : i < s.1.length) (ho : o < s.1.length) (hoi : o ≠ i) : lvN (pairN es i s o).1 k + onK (pairN es i s o).2 k = lvN s.1 k + onK s.2 k := by
  rw [pairN_lv hi ho hoi]
  unfold pairN
  split
  · show _ + onK (s.2 ++ [_]) k = _
    have : onK (s.2 ++ [rowN es i o (minV (lvN s.1 i) (lvN s.1 o))]) k = onK s.2 k + if k = i ∨ k = o then minV (lvN s.1 i) (lvN s.1 o) else 0 := by
      unfold onK
      rw [List.map_append, List.sum_append, ← onT_row es]
      simp
    rw [this]
    by_cases h2 : k = o
    · subst h2
      simp
      omega
    · by_cases h1 : k = i
      · subst h1
        simp [h2]
        omega
      · simp [h1, h2]
  · rfl
theorem pair_le {es : List Ent} {i o k : Nat} {s : List Int × List Tri} (hi : i < s.1.length) (ho : o < s.1.length) (hoi : o ≠ i) : lvN (pairN es i s o).1 k ≤ lvN s.1 k := by
  rw [pairN_lv hi ho hoi]
  split
  · split
    · rename_i h1 h2
      subst h2
      omega
    · split
      · rename_i h1 h2 h3
        subst h3
        omega
      · exact Int.le_refl _
  · exact Int.le_refl _
theorem pair_sgn {es : List Ent} {i o : Nat} {s : List Int × List Tri} (hl : s.1.length = es.length) (hi : i < s.1.length) (ho : o < s.1.length) (hoi : o ≠ i) (hb : entB es o ≠ entB es i) : sgS es (pairN es i s o).1 = sgS es s.1 := by
  unfold sgS
  have hm : ∀ k, lvN (pairN es i s o).1 k = if 0 < minV (lvN s.1 i) (lvN s.1 o) then (if k = o then lvN s.1 o - minV (lvN s.1 i) (lvN s.1 o) else if k = i then lvN s.1 i - minV (lvN s.1 i) (lvN s.1 o) else lvN s.1 k) else lvN s.1 k := fun k => pairN_lv hi ho hoi
  simp only [hm]
  by_cases h : 0 < minV (lvN s.1 i) (lvN s.1 o)
  · simp only [if_pos h]
    generalize minV (lvN s.1 i) (lvN s.1 o) = m
    have e1 := sumN_upd (f := fun k => sgB es k * lvN s.1 k) (g := fun k => sgB es k * if k = i then lvN s.1 i - m else lvN s.1 k) (i := i) (L := List.range es.length) List.nodup_range (by rw [List.mem_range]; omega) fun k _ hk => by simp [hk]
    have e2 := sumN_upd (f := fun k => sgB es k * if k = i then lvN s.1 i - m else lvN s.1 k) (g := fun k => sgB es k * if k = o then lvN s.1 o - m else if k = i then lvN s.1 i - m else lvN s.1 k) (i := o) (L := List.range es.length) List.nodup_range (by rw [List.mem_range]; omega) fun k _ hk => by simp [hk]
    rw [e2, e1]
    simp only [if_pos rfl, if_neg hoi, if_true]
    have hs : sgB es o = - sgB es i := by
      unfold sgB
      cases h1 : entB es o <;> cases h2 : entB es i <;> first | rfl | exact absurd (by rw [h1, h2]) hb
    rw [hs, ← Int.mul_sub, ← Int.mul_sub]
    have a1 : lvN s.1 i - m - lvN s.1 i = -m := by omega
    have a2 : lvN s.1 o - m - lvN s.1 o = -m := by omega
    rw [a1, a2]
    simp only [Int.neg_mul, Int.mul_neg]
    omega
  · simp only [if_neg h]
theorem fold_cons {es : List Ent} {i k : Nat} : ∀ (R : List Nat) (s : List Int × List Tri), i < s.1.length → (∀ o ∈ R, o < s.1.length ∧ o ≠ i) → lvN (R.foldl (pairN es i) s).1 k + onK (R.foldl (pairN es i) s).2 k = lvN s.1 k + onK s.2 k
  | [], s, _, _ => rfl
  | o :: R, s, hi, hR => by
    obtain ⟨ho, hoi⟩ := hR o (by simp)
    rw [List.foldl_cons, fold_cons R (pairN es i s o) (by rw [pairN_len]; exact hi) (fun x hx => by rw [pairN_len]; exact hR x (List.mem_cons_of_mem _ hx)), pair_cons hi ho hoi]
theorem fold_le {es : List Ent} {i k : Nat} : ∀ (R : List Nat) (s : List Int × List Tri), i < s.1.length → (∀ o ∈ R, o < s.1.length ∧ o ≠ i) → lvN (R.foldl (pairN es i) s).1 k ≤ lvN s.1 k
  | [], s, _, _ => Int.le_refl _
  | o :: R, s, hi, hR => by
    obtain ⟨ho, hoi⟩ := hR o (by simp)
    rw [List.foldl_cons]
    exact Int.le_trans (fold_le R (pairN es i s o) (by rw [pairN_len]; exact hi) (fun x hx => by rw [pairN_len]; exact hR x (List.mem_cons_of_mem _ hx))) (pair_le hi ho hoi)
theorem fold_sgn {es : List Ent} {i : Nat} : ∀ (R : List Nat) (s : List Int × List Tri), s.1.length = es.length → i < s.1.length → (∀ o ∈ R, o < s.1.length ∧ o ≠ i) → (∀ o ∈ R, entB es o ≠ entB es i) → sgS es (R.foldl (pairN es i) s).1 = sgS es s.1
  | [], s, _, _, _, _ => rfl
  | o :: R, s, hl, hi, hR, hb => by
    obtain ⟨ho, hoi⟩ := hR o (by simp)
    rw [List.foldl_cons, fold_sgn R (pairN es i s o) (by rw [pairN_len]; exact hl) (by rw [pairN_len]; exact hi) (fun x hx => by rw [pairN_len]; exact hR x (List.mem_cons_of_mem _ hx)) (fun x hx => hb x (List.mem_cons_of_mem _ hx)), pair_sgn hl hi ho hoi (hb o (by simp))]
theorem fold_max {es : List Ent} {i : Nat} : ∀ (R : List Nat) (s : List Int × List Tri), i < s.1.length → (∀ o ∈ R, o < s.1.length ∧ o ≠ i) → R.Nodup → (∀ k, 0 ≤ lvN s.1 k) → lvN (R.foldl (pairN es i) s).1 i = 0 ∨ ∀ o ∈ R, lvN (R.foldl (pairN es i) s).1 o = 0
  | [], s, _, _, _, _ => .inr fun _ h => nomatch h
  | o :: R, s, hi, hR, nd, hn => by
    obtain ⟨ho, hoi⟩ := hR o (by simp)
    have n := List.nodup_cons.mp nd
    have hi2 : i < (pairN es i s o).1.length := by rw [pairN_len]; exact hi
    have hR2 : ∀ x ∈ R, x < (pairN es i s o).1.length ∧ x ≠ i := fun x hx => by rw [pairN_len]; exact hR x (List.mem_cons_of_mem _ hx)
    have hn2 : ∀ k, 0 ≤ lvN (pairN es i s o).1 k := fold_nn [o] s hi (fun x hx => by rw [List.mem_singleton.mp hx]; exact ⟨ho, hoi⟩) hn
    have ih := fold_max (es := es) R (pairN es i s o) hi2 hR2 n.2 hn2
    rw [List.foldl_cons]
    rcases ih with h | h
    · exact .inl h
    · have hm := minV_le (lvN s.1 i) (lvN s.1 o)
      have a := hn i
      have b := hn o
      have hc : lvN (pairN es i s o).1 i = 0 ∨ lvN (pairN es i s o).1 o = 0 := by
        rw [pairN_lv hi ho hoi, pairN_lv hi ho hoi]
        have hio : ¬ i = o := fun z => hoi z.symm
        split
        · simp only [if_pos rfl, if_neg hio, if_true]
          omega
        · omega
      rcases hc with hc | hc
      · left
        rw [fold_done es i R _ hc]
        exact hc
      · right
        intro x hx
        rcases List.mem_cons.mp hx with rfl | hx
        · rw [fold_out R _ hi2 hR2 hoi n.1]
          exact hc
        · exact h x hx
structure GInv (es : List Ent) (st : GSt) : Prop where
  len : st.left.length = es.length
  nn : ∀ k, 0 ≤ lvN st.left k
  out : ∀ k, k ∉ lineN es → lvN st.left k = sumAt es k
  cons : ∀ k, lvN st.left k + onK st.rows k = sumAt es k
  sgn : sgS es st.left = sgS es (es.map Ent.sum)
  max : ∀ a ∈ st.met, ∀ b ∈ st.met, entB es a = true → entB es b = false → 0 < lvN st.left a → 0 < lvN st.left b → False
  met : ∀ k ∈ st.met, k ∈ lineN es
theorem ginv_step {es : List Ent} {ch : Ch} {st : GSt} {i : Nat} (hi : i ∈ lineN es) (h : GInv es st) : GInv es (stepN es ch (lineN es) st i) := by
  have ndO : (othersN (lineN es) st.met st.left).Nodup := (lineN_nodup es).filter _
  have pp := part_perm es ch st.left i ndO
  have ndR : (partN es ch st.left i (othersN (lineN es) st.met st.left)).Nodup := pp.nodup_iff.mpr (ndO.filter _)
  have hil : i < (st.left, st.rows).1.length := by
    show i < st.left.length
    rw [h.len]
    exact lineN_lt hi
  have hmem : ∀ o, o ∈ partN es ch st.left i (othersN (lineN es) st.met st.left) ↔ (o ∈ lineN es ∧ o ∈ st.met ∧ 0 < lvN st.left o) ∧ entB es o ≠ entB es i := fun o => by
    rw [pp.mem_iff, List.mem_filter]
    unfold othersN
    rw [List.mem_filter, Bool.and_eq_true, decide_eq_true_eq, decide_eq_true_eq]
    simp
  have hR : ∀ o ∈ partN es ch st.left i (othersN (lineN es) st.met st.left), o < (st.left, st.rows).1.length ∧ o ≠ i := fun o ho => by
    have := (hmem o).mp ho
    refine ⟨?_, fun z => this.2 (by rw [z])⟩
    show o < st.left.length
    rw [h.len]
    exact lineN_lt this.1.1
  have hb : ∀ o ∈ partN es ch st.left i (othersN (lineN es) st.met st.left), entB es o ≠ entB es i := fun o ho => ((hmem o).mp ho).2
  have hmax := fold_max (es := es) _ (st.left, st.rows) hil hR ndR h.nn
  have hle : ∀ k, lvN ((partN es ch st.left i (othersN (lineN es) st.met st.left)).foldl (pairN es i) (st.left, st.rows)).1 k ≤ lvN st.left k := fun k => fold_le (es := es) (k := k) _ (st.left, st.rows) hil hR
  have hlen := fold_len es i (partN es ch st.left i (othersN (lineN es) st.met st.left)) (st.left, st.rows)
  have hnn := fold_nn (es := es) (partN es ch st.left i (othersN (lineN es) st.met st.left)) (st.left, st.rows) hil hR h.nn
  have hout : ∀ k, k ∉ lineN es → lvN ((partN es ch st.left i (othersN (lineN es) st.met st.left)).foldl (pairN es i) (st.left, st.rows)).1 k = lvN st.left k := fun k hk => fold_out _ (st.left, st.rows) hil hR (fun z => hk (by rw [z]; exact hi)) fun z => hk ((hmem k).mp z).1.1
  have hcons := fun k => fold_cons (es := es) (k := k) (partN es ch st.left i (othersN (lineN es) st.met st.left)) (st.left, st.rows) hil hR
  have hsgn := fold_sgn (es := es) (partN es ch st.left i (othersN (lineN es) st.met st.left)) (st.left, st.rows) h.len hil hR hb
  have hst : stepN es ch (lineN es) st i = ⟨((partN es ch st.left i (othersN (lineN es) st.met st.left)).foldl (pairN es i) (st.left, st.rows)).1, ((partN es ch st.left i (othersN (lineN es) st.met st.left)).foldl (pairN es i) (st.left, st.rows)).2, st.met ++ [i]⟩ := rfl
  rw [hst]
  generalize (partN es ch st.left i (othersN (lineN es) st.met st.left)).foldl (pairN es i) (st.left, st.rows) = F at *
  refine ⟨by rw [← h.len]; exact hlen, hnn, fun k hk => (hout k hk).trans (h.out k hk), fun k => (hcons k).trans (h.cons k), hsgn.trans h.sgn, ?_, fun k hk => ?_⟩
  · intro a ha b hb2 ea eb pa pb
    rw [List.mem_append, List.mem_singleton] at ha hb2
    have la := Int.lt_of_lt_of_le pa (hle a)
    have lb := Int.lt_of_lt_of_le pb (hle b)
    have pa : 0 < lvN F.1 a := pa
    have pb : 0 < lvN F.1 b := pb
    rcases ha with ha | rfl <;> rcases hb2 with hb2 | rfl
    · exact h.max a ha b hb2 ea eb la lb
    · have hR : a ∈ partN es ch st.left b (othersN (lineN es) st.met st.left) := (hmem a).mpr ⟨⟨h.met a ha, ha, la⟩, by rw [ea, eb]; decide⟩
      rcases hmax with z | z
      · rw [z] at pb
        exact absurd pb (by decide)
      · rw [z a hR] at pa
        exact absurd pa (by decide)
    · have hR : b ∈ partN es ch st.left a (othersN (lineN es) st.met st.left) := (hmem b).mpr ⟨⟨h.met b hb2, hb2, lb⟩, by rw [ea, eb]; decide⟩
      rcases hmax with z | z
      · rw [z] at pa
        exact absurd pa (by decide)
      · rw [z b hR] at pb
        exact absurd pb (by decide)
    · rw [ea] at eb
      cases eb
  · have hk : k ∈ st.met ++ [i] := hk
    rw [List.mem_append, List.mem_singleton] at hk
    rcases hk with hk | rfl
    · exact h.met k hk
    · exact hi
theorem ginv_fold {es : List Ent} {ch : Ch} : ∀ (W : List Nat) (st : GSt), (∀ k ∈ W, k ∈ lineN es) → GInv es st → GInv es (W.foldl (stepN es ch (lineN es)) st) ∧ (W.foldl (stepN es ch (lineN es)) st).met = st.met ++ W
  | [], st, _, h => ⟨h, by simp⟩
  | i :: W, st, hW, h => by
    obtain ⟨h1, h2⟩ := ginv_fold (ch := ch) W _ (fun k hk => hW k (List.mem_cons_of_mem _ hk)) (ginv_step (ch := ch) (hW i (by simp)) h)
    refine ⟨h1, ?_⟩
    rw [List.foldl_cons, h2]
    show (st.met ++ [i]) ++ W = _
    simp
theorem gone_inv {es : List Ent} {dy : Bool} {ch : Ch} (h : AccOk es) : GInv es (goneN es dy ch) ∧ (goneN es dy ch).met = walkN es dy := by
  have := ginv_fold (es := es) (ch := ch) (walkN es dy) ⟨es.map Ent.sum, [], []⟩ (fun k hk => (walkN_perm es dy).mem_iff.mp hk) ⟨by simp, fun k => by rw [lv_sums]; exact sum_nn h k, fun k _ => lv_sums, fun k => by
    show lvN (es.map Ent.sum) k + 0 = _
    rw [lv_sums]
    omega, rfl, (fun _ z => nomatch z), fun _ z => nomatch z⟩
  exact this
/-- what is left on the bills, in all -/
theorem left_bills {es : List Ent} {dy : Bool} {ch : Ch} (h : AccOk es) :
    sumN (fun k => if entB es k = true then lvN (goneN es dy ch).left k else 0) (List.range es.length) = if 0 < sgS es (es.map Ent.sum) then sgS es (es.map Ent.sum) else 0 := by
  obtain ⟨g, hm⟩ := gone_inv (dy := dy) (ch := ch) h
  generalize goneN es dy ch = st at g hm ⊢
  rw [← g.sgn]
  have hin : ∀ k, 0 < lvN st.left k → k ∈ st.met := fun k hk => by
    rw [hm, (walkN_perm es dy).mem_iff]
    refine Decidable.byContradiction fun hn => ?_
    rw [g.out k hn] at hk
    unfold sumAt at hk
    cases e : es[k]? with
    | none => rw [e] at hk; exact absurd hk (by decide)
    | some x =>
      rw [e] at hk
      refine hn (lineN_has e ?_)
      cases x <;> first | rfl | exact absurd hk (by decide)
  have hs : sgS es st.left = sumN (fun k => if entB es k = true then lvN st.left k else 0) (List.range es.length) - sumN (fun k => if entB es k = true then 0 else lvN st.left k) (List.range es.length) := by
    unfold sgS
    rw [← sumN_sub]
    refine sumN_congr fun k _ => ?_
    unfold sgB
    split <;> omega
  have n1 : 0 ≤ sumN (fun k => if entB es k = true then lvN st.left k else 0) (List.range es.length) := sumN_nn fun k _ => by
    have := g.nn k
    split <;> omega
  have n2 : 0 ≤ sumN (fun k => if entB es k = true then 0 else lvN st.left k) (List.range es.length) := sumN_nn fun k _ => by
    have := g.nn k
    split <;> omega
  by_cases hp : 0 < sumN (fun k => if entB es k = true then lvN st.left k else 0) (List.range es.length)
  · obtain ⟨a, _, ha⟩ := sumN_pos hp
    have hea : entB es a = true ∧ 0 < lvN st.left a := by
      split at ha
      · exact ⟨by assumption, ha⟩
      · exact absurd ha (by decide)
    have hz : sumN (fun k => if entB es k = true then 0 else lvN st.left k) (List.range es.length) = 0 := sumN_zero fun b _ => by
      split
      · rfl
      · rename_i hb
        have := g.nn b
        refine Decidable.byContradiction fun hne => ?_
        have hb2 : 0 < lvN st.left b := by omega
        exact g.max a (hin a hea.2) b (hin b hb2) hea.1 (by simpa using hb) hea.2 hb2
    rw [hs, hz]
    split <;> omega
  · rw [hs]
    split <;> omega
end VL

namespace VL
open PySem PySem.Spec PyProof.Rows L2 G
theorem map_filt {α β : Type} (c : α → Bool) (f : α → β) : ∀ L : List α, (L.filter c).map f = L.filterMap (fun x => if c x = true then some (f x) else none)
  | [] => rfl
  | x :: L => by
    rw [List.filterMap_cons, List.filter_cons, ← map_filt c f L]
    by_cases h : c x = true <;> simp [h]
theorem fm_congr {α β : Type} {f g : α → Option β} : ∀ {L : List α}, (∀ x ∈ L, f x = g x) → L.filterMap f = L.filterMap g
  | [], _ => rfl
  | x :: L, h => by
    rw [List.filterMap_cons, List.filterMap_cons, h x (by simp), fm_congr fun y hy => h y (List.mem_cons_of_mem _ hy)]
end VL

namespace VL
open PySem PySem.Spec PyProof.Rows L2 G
/-- a walk that folds, with continue -/
theorem w_foldX {α σ : Type} {body : D → En → Option Out} {QO : Out → Prop} {e : α → D} (I : List α → σ → En → Prop) (step : σ → α → σ) : ∀ (W : List α) (st : σ) (en : En), I W st en →
    (∀ k W st en, I (k :: W) st en → O1 (body (e k) en) fun o => ∃ en', (o = .nx en' ∨ o = .ct en') ∧ I W (step st k) en') → (∀ en, I [] (W.foldl step st) en → QO (.nx en)) → O1 (forD body (W.map e) en) QO
  | [], st, en, h, _, q => ⟨_, rfl, q en h⟩
  | k :: W, st, en, h, hb, q => by
    obtain ⟨o, h1, en1, h2, h3⟩ := hb k W st en h
    obtain ⟨o2, h4, h5⟩ := w_foldX I step W (step st k) en1 h3 hb (fun en hI => q en hI)
    refine ⟨o2, ?_, h5⟩
    rw [List.map_cons]
    unfold forD
    rw [h1]
    rcases h2 with rfl | rfl <;> exact h4
theorem w_cnt {en : En} {QO : Out → Prop} (q : QO (.ct en)) : O1 (sCnt en) QO := ⟨_, rfl, q⟩
theorem thenQ_ct {s : FS} {QO : Out → Prop} {en : En} (h : QO (.ct en)) : thenQ s QO (.ct en) := h
theorem lD_app (st : List Int) (v : Int) : lD (st ++ [v]) = lD st ++ [.int v] := List.map_append
def billsN (es : List Ent) : List Nat := (lineN es).filter fun k => entB es k
theorem bills_len {es : List Ent} : (billsN es).length ≤ es.length := Nat.le_trans (List.length_filter_le _ _) (lineN_len es)
theorem bills_mem {es : List Ent} {k : Nat} (h : k ∈ billsN es) : k ∈ lineN es ∧ entB es k = true := List.mem_filter.mp h
end VL

namespace VL
open PySem PySem.Spec PyProof.Rows L2 G
/-! ### the account as of a day -/
def cutE (date : Int) (e : Ent) : Ent := if e.isStruck = true then e else if e.day ≤ date then e else .struck
def cutN (es : List Ent) (date : Int) : List Ent := es.map (cutE date)
theorem cut_len (es : List Ent) (date : Int) : (cutN es date).length = es.length := by simp [cutN]
theorem cut_at {es : List Ent} {date : Int} {k : Nat} : (cutN es date)[k]? = (es[k]?).map (cutE date) := by simp [cutN]
theorem cut_ok {es : List Ent} {date : Int} (h : AccOk es) : AccOk (cutN es date) := fun x hx => by
  unfold cutN at hx
  rw [List.mem_map] at hx
  obtain ⟨e, he, rfl⟩ := hx
  have hok := h e he
  unfold cutE
  split
  · rename_i hs
    cases e with
    | struck => exact trivial
    | _ => cases hs
  · split
    · rename_i hs hd
      cases e with
      | bill d s => exact hok
      | pay d s => exact hok
      | struck => exact trivial
      | named d s b =>
        obtain ⟨h1, d', s', h2, h3⟩ := hok
        refine ⟨h1, d', s', ?_, h3⟩
        rw [cut_at, h2]
        have hd : d ≤ date := hd
        have h4 : d' ≤ date := by omega
        simp [cutE, Ent.isStruck, Ent.day, h4]
    · exact trivial
/-! ### the balance -/
def sgE (e : Ent) : Int := if e.isBill = true then e.sum else - e.sum
def balN (es : List Ent) (date : Int) : Int := ((cutN es date).map sgE).sum
theorem bal_step (date : Int) (e : Ent) : sgE (cutE date e) = if e.isStruck = true then 0 else if e.day ≤ date then (if e.isBill = true then e.sum else - e.sum) else 0 := by
  unfold cutE
  split
  · rename_i hs
    cases e with
    | struck => rfl
    | _ => cases hs
  · split <;> rfl
end VL

namespace VL
open PySem PySem.Spec PyProof.Rows L2 G
/-! ### the line of an account as of a day is the front of its line: pure -/
theorem pairs_cut (es : List Ent) (date : Int) : pairs (cutN es date) = (pairs es).filter fun p => decide (p.1 ≤ date) := by
  unfold pairs
  rw [cut_len, List.filter_filterMap]
  refine fm_congr fun k hk => ?_
  unfold dayIx
  rw [cut_at]
  cases es[k]? with
  | none => rfl
  | some e =>
    show (if (cutE date e).isStruck = true then none else some ((cutE date e).day, (k : Int))) = _
    unfold cutE
    cases hs : e.isStruck with
    | true =>
      simp [hs]
    | false =>
      by_cases hd : e.day ≤ date
      · simp [hs, hd, Option.filter]
      · simp [hs, hd, Option.filter, show Ent.struck.isStruck = true from rfl]
theorem sortP_filter (ps : List (Int × Int)) (c : Int × Int → Bool) : sortP (ps.filter c) = (sortP ps).filter c :=
  (sortP_eq ((sortP_perm ps).filter c) ((sortP_pw ps).filter c)).symm
theorem split_le {date : Int} : ∀ {L : List (Int × Int)}, L.Pairwise (fun a b => leP a b = true) → L = L.filter (fun p => decide (p.1 ≤ date)) ++ L.filter (fun p => !decide (p.1 ≤ date))
  | [], _ => rfl
  | p :: L, h => by
    have h2 := List.pairwise_cons.mp h
    rw [List.filter_cons, List.filter_cons]
    by_cases hp : p.1 ≤ date
    · have ih := split_le (date := date) h2.2
      simp only [hp, decide_true, if_true, Bool.not_true, Bool.false_eq_true, if_false, List.cons_append]
      rw [← ih]
    · have hn : L.filter (fun p => decide (p.1 ≤ date)) = [] := List.filter_eq_nil_iff.mpr fun q hq => by
        have := leP_iff.mp (h2.1 q hq)
        simp
        omega
      have ha : L.filter (fun p => !decide (p.1 ≤ date)) = L := List.filter_eq_self.mpr fun q hq => by
        have := leP_iff.mp (h2.1 q hq)
        simp
        omega
      simp only [hp, decide_false, if_true, Bool.not_false, Bool.false_eq_true, if_false]
      rw [hn, ha]
      rfl
theorem line_front (es : List Ent) (date : Int) : ∃ R : List Nat, lineN es = lineN (cutN es date) ++ R := by
  refine ⟨((sortP (pairs es)).filter fun p => !decide (p.1 ≤ date)).map fun p => p.2.toNat, ?_⟩
  unfold lineN lineL
  rw [pairs_cut, sortP_filter, List.map_map, List.map_map]
  conv => lhs; rw [split_le (date := date) (sortP_pw (pairs es)), List.map_append]
  rfl
end VL

namespace VL
open PySem PySem.Spec PyProof.Rows L2 G
theorem s_fits_manner (dy : Bool) (ch : Ch) : O2 (C_fits_manner [.va (manD dy ch)]) fun r en => r = .bool true := by
  refine w_fn 1 ?_
  try simp only [List.length_cons, List.length_nil, Nat.reduceAdd, Nat.reduceSub, List.replicate_succ, List.replicate_zero, List.cons_append, List.nil_append]
  unfold f_fits_manner manD
  refine st_ ?_
  refine x_f (by simp [PyData.eqv, typD, isiD, isNone]; done) ?_
  refine st_ ?_
  refine x_f (by simp [PyData.eqv, typD, isiD, isNone]; done) ?_
  refine st_ ?_
  refine ⟨sqS dy, rfl, ?_⟩
  rw [show decide (sqS dy ∈ [Str.ofString "days", Str.ofString "entered"]) = true by cases dy <;> decide +kernel]
  refine st_ ?_
  refine ⟨chS ch, rfl, ?_⟩
  rw [show decide (chS ch ∈ [Str.ofString "oldest", Str.ofString "newest", Str.ofString "greatest", Str.ofString "least"]) = true by cases ch <;> decide +kernel]
  rfl
theorem s_check_manner (dy : Bool) (ch : Ch) : O2 (C_check_manner [.va (manD dy ch)]) fun r en => True := by
  refine w_fn 1 ?_
  try simp only [List.length_cons, List.length_nil, Nat.reduceAdd, Nat.reduceSub, List.replicate_succ, List.replicate_zero, List.cons_append, List.nil_append]
  unfold f_check_manner
  refine st_ ?_
  try simp only [List.set_cons_zero, List.set_cons_succ, List.map_cons, List.map_nil, mdSl, putBack, wipeE, permL, List.filterMap_cons, List.filterMap_nil, List.getElem?_cons_zero, List.getElem?_cons_succ]
  refine (s_fits_manner dy ch).mono ?_
  rintro _ _ rfl
  refine st_ ?_
  trivial
def laidT (es : List Ent) (dy : Bool) (ch : Ch) : List Tri := sortT (goneN es dy ch).rows
theorem rows_bound (es : List Ent) (ch : Ch) (L : List Nat) (m : Nat) (hL : L.length ≤ m) (nd : L.Nodup) : ∀ (W : List Nat) (st : GSt), (W.foldl (stepN es ch L) st).rows.length ≤ st.rows.length + m * W.length
  | [], st => by simp
  | i :: W, st => by
    have h1 := rows_bound es ch L m hL nd W (stepN es ch L st i)
    have h2 := fold_rows es i (partN es ch st.left i (othersN L st.met st.left)) (st.left, st.rows)
    have h3 : (partN es ch st.left i (othersN L st.met st.left)).length ≤ m := Nat.le_trans (part_len (nd.filter _)) (Nat.le_trans (List.length_filter_le _ _) hL)
    have h4 : (stepN es ch L st i).rows.length = ((partN es ch st.left i (othersN L st.met st.left)).foldl (pairN es i) (st.left, st.rows)).2.length := rfl
    rw [List.foldl_cons, List.length_cons, Nat.mul_add, Nat.mul_one]
    dsimp only at h2
    omega
theorem gone_len {es : List Ent} {dy : Bool} {ch : Ch} {m : Nat} (hz : es.length ≤ m) : (goneN es dy ch).rows.length ≤ m * m := by
  have hL := lineN_len es
  have h := rows_bound es ch (lineN es) m (by omega) (lineN_nodup es) (walkN es dy) ⟨es.map Ent.sum, [], []⟩
  have hW : (walkN es dy).length ≤ m := by
    rw [(walkN_perm es dy).length_eq]
    omega
  have := Nat.mul_le_mul_left m hW
  unfold goneN
  simp only [List.length_nil] at h
  omega
theorem gone_rows {es : List Ent} {dy : Bool} {ch : Ch} (hz : es.length ≤ 1000) : (goneN es dy ch).rows.length ≤ 1000000 := gone_len hz
theorem laidT_len {es : List Ent} {dy : Bool} {ch : Ch} {m : Nat} (hz : es.length ≤ m) : (laidT es dy ch).length ≤ m * m := by
  unfold laidT
  rw [(sortT_perm _).length_eq]
  exact gone_len hz
end VL

namespace VL
open PySem PySem.Spec PyProof.Rows L2 G
/-! ### the rows of a laying: pure -/
abbrev bp (t : Tri) : Int × Int := (t.1, t.2.1)
theorem row_bp_inj {es : List Ent} {i o o' : Nat} {m m' : Int} (h : bp (rowN es i o m) = bp (rowN es i o' m')) : o = o' := by
  unfold bp rowN at h
  split at h
  · have := congrArg Prod.snd h
    dsimp only at this
    omega
  · have := congrArg Prod.fst h
    dsimp only at this
    omega
theorem fold_ex {es : List Ent} {i : Nat} : ∀ (R : List Nat) (s : List Int × List Tri), ∃ ex : List Tri, (R.foldl (pairN es i) s).2 = s.2 ++ ex ∧ (∀ t ∈ ex, ∃ o ∈ R, ∃ m : Int, 0 < m ∧ t = rowN es i o m) ∧ (R.Nodup → (ex.map bp).Nodup)
  | [], s => ⟨[], by simp, (fun _ z => nomatch z), fun _ => List.nodup_nil⟩
  | o :: R, s => by
    obtain ⟨ex, h1, h2, h3⟩ := fold_ex (es := es) (i := i) R (pairN es i s o)
    by_cases hp : 0 < minV (lvN s.1 i) (lvN s.1 o)
    · have e : (pairN es i s o).2 = s.2 ++ [rowN es i o (minV (lvN s.1 i) (lvN s.1 o))] := by
        unfold pairN
        rw [if_pos hp]
      refine ⟨rowN es i o (minV (lvN s.1 i) (lvN s.1 o)) :: ex, ?_, ?_, ?_⟩
      · rw [List.foldl_cons, h1, e]
        simp
      · intro t ht
        rcases List.mem_cons.mp ht with rfl | ht
        · exact ⟨o, by simp, _, hp, rfl⟩
        · obtain ⟨o', ho', m, hm, e⟩ := h2 t ht
          exact ⟨o', List.mem_cons_of_mem _ ho', m, hm, e⟩
      · intro nd
        have n := List.nodup_cons.mp nd
        rw [List.map_cons, List.nodup_cons]
        refine ⟨fun z => ?_, h3 n.2⟩
        obtain ⟨t, ht, e⟩ := List.mem_map.mp z
        obtain ⟨o', ho', m, hm, rfl⟩ := h2 t ht
        have := row_bp_inj e
        rw [this] at ho'
        exact n.1 ho'
    · have e : pairN es i s o = s := by
        unfold pairN
        rw [if_neg hp]
      refine ⟨ex, ?_, ?_, fun nd => h3 (List.nodup_cons.mp nd).2⟩
      · rw [List.foldl_cons, h1, e]
      · intro t ht
        obtain ⟨o', ho', m, hm, e⟩ := h2 t ht
        exact ⟨o', List.mem_cons_of_mem _ ho', m, hm, e⟩
structure RowsOk (es : List Ent) (st : GSt) : Prop where
  row : ∀ t ∈ st.rows, ∃ (b p : Nat) (m : Int), t = ((b : Int), (p : Int), m) ∧ b ∈ st.met ∧ p ∈ st.met ∧ entB es b = true ∧ entB es p = false ∧ 0 < m
  nd : (st.rows.map bp).Nodup
theorem part_mem {es : List Ent} {ch : Ch} {st : GSt} {i o : Nat} (h : o ∈ partN es ch st.left i (othersN (lineN es) st.met st.left)) : o ∈ st.met ∧ entB es o ≠ entB es i := by
  have ndO : (othersN (lineN es) st.met st.left).Nodup := (lineN_nodup es).filter _
  rw [(part_perm es ch st.left i ndO).mem_iff, List.mem_filter] at h
  have h2 := (List.mem_filter.mp h.1).2
  rw [Bool.and_eq_true] at h2
  exact ⟨of_decide_eq_true h2.1, by simpa using h.2⟩
theorem step_ex {es : List Ent} {ch : Ch} {st : GSt} {i : Nat} : ∃ ex : List Tri, (stepN es ch (lineN es) st i).rows = st.rows ++ ex ∧ (∀ t ∈ ex, ∃ o, o ∈ st.met ∧ entB es o ≠ entB es i ∧ ∃ m : Int, 0 < m ∧ t = rowN es i o m) ∧ (ex.map bp).Nodup := by
  obtain ⟨ex, h1, h2, h3⟩ := fold_ex (es := es) (i := i) (partN es ch st.left i (othersN (lineN es) st.met st.left)) (st.left, st.rows)
  have ndO : (othersN (lineN es) st.met st.left).Nodup := (lineN_nodup es).filter _
  refine ⟨ex, h1, fun t ht => ?_, h3 ((part_perm es ch st.left i ndO).nodup_iff.mpr (ndO.filter _))⟩
  obtain ⟨o, ho, m, hm, e⟩ := h2 t ht
  obtain ⟨a, b⟩ := part_mem ho
  exact ⟨o, a, b, m, hm, e⟩
theorem row_is {es : List Ent} {i o : Nat} {m : Int} (h : entB es o ≠ entB es i) : ∃ b p : Nat, rowN es i o m = ((b : Int), (p : Int), m) ∧ entB es b = true ∧ entB es p = false ∧ ((b = i ∧ p = o) ∨ (b = o ∧ p = i)) := by
  unfold rowN
  cases hi : entB es i with
  | true =>
    rw [if_pos rfl]
    rw [hi] at h
    exact ⟨i, o, rfl, hi, by simpa using h, .inl ⟨rfl, rfl⟩⟩
  | false =>
    rw [if_neg (by decide)]
    rw [hi] at h
    exact ⟨o, i, rfl, by simpa using h, hi, .inr ⟨rfl, rfl⟩⟩
theorem rows_step {es : List Ent} {ch : Ch} {st : GSt} {i : Nat} (him : i ∉ st.met) (h : RowsOk es st) : RowsOk es (stepN es ch (lineN es) st i) := by
  obtain ⟨ex, h1, h2, h3⟩ := step_ex (es := es) (ch := ch) (st := st) (i := i)
  have hm : (stepN es ch (lineN es) st i).met = st.met ++ [i] := rfl
  have hex : ∀ t ∈ ex, ∃ (b p : Nat) (m : Int), t = ((b : Int), (p : Int), m) ∧ b ∈ st.met ++ [i] ∧ p ∈ st.met ++ [i] ∧ entB es b = true ∧ entB es p = false ∧ 0 < m ∧ (b = i ∨ p = i) := fun t ht => by
    obtain ⟨o, a, b, m, hm2, rfl⟩ := h2 t ht
    obtain ⟨b', p', e, e1, e2, e3⟩ := row_is (m := m) b
    rcases e3 with ⟨rfl, rfl⟩ | ⟨rfl, rfl⟩
    · exact ⟨b', p', m, e, by simp, by simp [a], e1, e2, hm2, .inl rfl⟩
    · exact ⟨b', p', m, e, by simp [a], by simp, e1, e2, hm2, .inr rfl⟩
  refine ⟨fun t ht => ?_, ?_⟩
  · rw [h1, List.mem_append] at ht
    rw [hm]
    rcases ht with ht | ht
    · obtain ⟨b, p, m, e, e1, e2, e3⟩ := h.row t ht
      exact ⟨b, p, m, e, List.mem_append_left _ e1, List.mem_append_left _ e2, e3⟩
    · obtain ⟨b, p, m, e, e1, e2, e3, e4, e5, _⟩ := hex t ht
      exact ⟨b, p, m, e, e1, e2, e3, e4, e5⟩
  · rw [h1, List.map_append, List.nodup_append]
    refine ⟨h.nd, h3, fun a ha b hb z => ?_⟩
    subst z
    obtain ⟨t, ht, e⟩ := List.mem_map.mp ha
    obtain ⟨t', ht', e'⟩ := List.mem_map.mp hb
    obtain ⟨b, p, m, rfl, g1, g2, _⟩ := h.row t ht
    obtain ⟨b', p', m', rfl, _, _, _, _, _, g3⟩ := hex t' ht'
    rw [← e'] at e
    have e1 : b = b' := by
      have := congrArg Prod.fst e
      dsimp only [bp] at this
      omega
    have e2 : p = p' := by
      have := congrArg Prod.snd e
      dsimp only [bp] at this
      omega
    rcases g3 with g3 | g3
    · exact him (by rw [← g3, ← e1]; exact g1)
    · exact him (by rw [← g3, ← e2]; exact g2)
theorem rows_fold {es : List Ent} {ch : Ch} : ∀ (W : List Nat) (st : GSt), W.Nodup → (∀ k ∈ W, k ∉ st.met) → RowsOk es st → RowsOk es (W.foldl (stepN es ch (lineN es)) st) ∧ (W.foldl (stepN es ch (lineN es)) st).met = st.met ++ W
  | [], st, _, _, h => ⟨h, by simp⟩
  | i :: W, st, nd, hm, h => by
    have n := List.nodup_cons.mp nd
    obtain ⟨a, b⟩ := rows_fold (ch := ch) W (stepN es ch (lineN es) st i) n.2 (fun k hk z => by
      have z : k ∈ st.met ++ [i] := z
      rw [List.mem_append, List.mem_singleton] at z
      rcases z with z | z
      · exact hm k (List.mem_cons_of_mem _ hk) z
      · exact n.1 (by rw [← z]; exact hk)) (rows_step (ch := ch) (hm i (by simp)) h)
    refine ⟨a, ?_⟩
    rw [List.foldl_cons, b]
    show (st.met ++ [i]) ++ W = _
    simp
theorem gone_rowsOk {es : List Ent} {dy : Bool} {ch : Ch} : RowsOk es (goneN es dy ch) ∧ (goneN es dy ch).met = walkN es dy := by
  have := rows_fold (es := es) (ch := ch) (walkN es dy) ⟨es.map Ent.sum, [], []⟩ (walkN_nodup es dy) (fun _ _ z => nomatch z) ⟨(fun _ z => nomatch z), List.nodup_nil⟩
  exact this
/-- what the steps of a walk put in has one of the walk in it -/
theorem fold_ext {es : List Ent} {ch : Ch} : ∀ (W : List Nat) (st : GSt), ∃ ex : List Tri, (W.foldl (stepN es ch (lineN es)) st).rows = st.rows ++ ex ∧ ∀ t ∈ ex, ∃ (b p : Nat) (m : Int), t = ((b : Int), (p : Int), m) ∧ entB es b = true ∧ entB es p = false ∧ 0 < m ∧ (b ∈ W ∨ p ∈ W)
  | [], st => ⟨[], by simp, fun _ z => nomatch z⟩
  | i :: W, st => by
    obtain ⟨ex, h1, h2, _⟩ := step_ex (es := es) (ch := ch) (st := st) (i := i)
    obtain ⟨ex', h3, h4⟩ := fold_ext (es := es) (ch := ch) W (stepN es ch (lineN es) st i)
    refine ⟨ex ++ ex', by rw [List.foldl_cons, h3, h1]; simp, fun t ht => ?_⟩
    rcases List.mem_append.mp ht with ht | ht
    · obtain ⟨o, a, b, m, hm, rfl⟩ := h2 t ht
      obtain ⟨b', p', e, e1, e2, e3⟩ := row_is (m := m) b
      rcases e3 with ⟨rfl, rfl⟩ | ⟨rfl, rfl⟩
      · exact ⟨b', p', m, e, e1, e2, hm, .inl (by simp)⟩
      · exact ⟨b', p', m, e, e1, e2, hm, .inr (by simp)⟩
    · obtain ⟨b, p, m, e, e1, e2, e3, e4⟩ := h4 t ht
      exact ⟨b, p, m, e, e1, e2, e3, e4.imp (List.mem_cons_of_mem _) (List.mem_cons_of_mem _)⟩
/-! ### the account as of a day is laid as the front of the line -/
theorem rank_congr {ch : Ch} {l1 l2 : List Int} {C : List Nat} (h : ∀ k ∈ C, lvN l1 k = lvN l2 k) : rankN ch l1 C = rankN ch l2 C := by
  cases ch with
  | oldest => rfl
  | newest => rfl
  | greatest =>
    have := List.map_mergeSort (r := upN l1) (s := upN l2) (f := id) (l := C) (fun a ha b hb => by
      unfold upN
      rw [h a ha, h b hb]
      rfl)
    rw [List.map_id, List.map_id] at this
    exact this
  | least =>
    have := List.map_mergeSort (r := dnN l1) (s := dnN l2) (f := id) (l := C) (fun a ha b hb => by
      unfold dnN
      rw [h a ha, h b hb]
      rfl)
    rw [List.map_id, List.map_id] at this
    exact this
theorem fold_same {es fs : List Ent} {i : Nat} {L' : List Nat} (hb : entB es i = entB fs i) (hi : i ∈ L') : ∀ (R : List Nat) (s s' : List Int × List Tri), i < s.1.length → i < s'.1.length → (∀ o ∈ R, o ∈ L' ∧ o ≠ i ∧ o < s.1.length ∧ o < s'.1.length) → s.2 = s'.2 → (∀ k ∈ L', lvN s.1 k = lvN s'.1 k) →
    (R.foldl (pairN es i) s).2 = (R.foldl (pairN fs i) s').2 ∧ ∀ k ∈ L', lvN (R.foldl (pairN es i) s).1 k = lvN (R.foldl (pairN fs i) s').1 k
  | [], s, s', _, _, _, h, hl => ⟨h, hl⟩
  | o :: R, s, s', h1, h2, hR, h, hl => by
    obtain ⟨ho, hoi, ho1, ho2⟩ := hR o (by simp)
    refine fold_same hb hi R (pairN es i s o) (pairN fs i s' o) (by rw [pairN_len]; exact h1) (by rw [pairN_len]; exact h2) (fun x hx => by rw [pairN_len, pairN_len]; exact hR x (List.mem_cons_of_mem _ hx)) ?_ fun k hk => ?_
    · unfold pairN
      rw [hl i hi, hl o ho, h]
      split
      · show _ ++ _ = _ ++ _
        unfold rowN
        rw [hb]
      · exact h
    · rw [pairN_lv h1 ho1 hoi, pairN_lv h2 ho2 hoi, hl i hi, hl o ho, hl k hk]
structure Same (L' : List Nat) (s s' : GSt) : Prop where
  met : s.met = s'.met
  rows : s.rows = s'.rows
  left : ∀ k ∈ L', lvN s.left k = lvN s'.left k
theorem part_congr {es fs : List Ent} {ch : Ch} {l1 l2 : List Int} {i : Nat} {L' C : List Nat} (hB : ∀ k ∈ L', entB es k = entB fs k) (hN : namedOf es i = namedOf fs i) (hi : i ∈ L') (hC : ∀ k ∈ C, k ∈ L') (hl : ∀ k ∈ L', lvN l1 k = lvN l2 k) : partN es ch l1 i C = partN fs ch l2 i C := by
  unfold partN
  rw [hB i hi, hN]
  have e1 : C.filter (fun o => !entB es o) = C.filter (fun o => !entB fs o) := List.filter_congr fun k hk => by rw [hB k (hC k hk)]
  have e2 : C.filter (fun o => entB es o) = C.filter (fun o => entB fs o) := List.filter_congr fun k hk => by rw [hB k (hC k hk)]
  rw [e1, e2, rank_congr (l1 := l1) (l2 := l2) fun k hk => hl k (hC k (List.mem_filter.mp hk).1)]
theorem others_front {L' R met : List Nat} {l1 l2 : List Int} (nd : (L' ++ R).Nodup) (hm : ∀ k ∈ met, k ∈ L') (hl : ∀ k ∈ L', lvN l1 k = lvN l2 k) : othersN (L' ++ R) met l1 = othersN L' met l2 := by
  unfold othersN
  have n := List.nodup_append.mp nd
  rw [List.filter_append]
  have : R.filter (fun o => decide (o ∈ met) && decide (0 < lvN l1 o)) = [] := List.filter_eq_nil_iff.mpr fun k hk z => by
    rw [Bool.and_eq_true] at z
    exact n.2.2 k (hm k (of_decide_eq_true z.1)) k hk rfl
  rw [this, List.append_nil]
  exact List.filter_congr fun k hk => by rw [hl k hk]
theorem front_fold {es fs : List Ent} {ch : Ch} {R : List Nat} (hL : lineN es = lineN fs ++ R) (hlen : fs.length = es.length) (hB : ∀ k ∈ lineN fs, entB es k = entB fs k) (hN : ∀ k ∈ lineN fs, namedOf es k = namedOf fs k) : ∀ (W : List Nat) (s s' : GSt), (∀ k ∈ W, k ∈ lineN fs) → (∀ k ∈ s.met, k ∈ lineN fs) → s.left.length = es.length → s'.left.length = es.length → Same (lineN fs) s s' →
    Same (lineN fs) (W.foldl (stepN es ch (lineN es)) s) (W.foldl (stepN fs ch (lineN fs)) s')
  | [], s, s', _, _, _, _, h => h
  | i :: W, s, s', hW, hm, h1, h2, h => by
    have hi := hW i (by simp)
    have nd : (lineN fs ++ R).Nodup := by rw [← hL]; exact lineN_nodup es
    have eo : othersN (lineN es) s.met s.left = othersN (lineN fs) s'.met s'.left := by
      rw [hL, ← h.met]
      exact others_front nd hm h.left
    have eoL : ∀ k ∈ othersN (lineN fs) s'.met s'.left, k ∈ lineN fs := fun k hk => (List.mem_filter.mp hk).1
    have ep : partN es ch s.left i (othersN (lineN es) s.met s.left) = partN fs ch s'.left i (othersN (lineN fs) s'.met s'.left) := by
      rw [eo]
      exact part_congr hB (hN i hi) hi eoL h.left
    have hil : i < es.length := by rw [← hlen]; exact lineN_lt hi
    have hP : ∀ o ∈ partN fs ch s'.left i (othersN (lineN fs) s'.met s'.left), o ∈ lineN fs ∧ o ≠ i ∧ o < (s.left, s.rows).1.length ∧ o < (s'.left, s'.rows).1.length := fun o ho => by
      obtain ⟨a, b⟩ := part_sub ((lineN_nodup fs).filter _) ho
      have := eoL o a
      have lt : o < es.length := by rw [← hlen]; exact lineN_lt this
      exact ⟨this, b, by show o < s.left.length; rw [h1]; exact lt, by show o < s'.left.length; rw [h2]; exact lt⟩
    have key := fold_same (es := es) (fs := fs) (hB i hi) hi (partN fs ch s'.left i (othersN (lineN fs) s'.met s'.left)) (s.left, s.rows) (s'.left, s'.rows) (by show i < s.left.length; rw [h1]; exact hil) (by show i < s'.left.length; rw [h2]; exact hil) hP h.rows h.left
    rw [List.foldl_cons, List.foldl_cons]
    refine front_fold hL hlen hB hN W _ _ (fun k hk => hW k (List.mem_cons_of_mem _ hk)) (fun k hk => ?_) ((fold_len es i _ (s.left, s.rows)).trans h1) ((fold_len fs i _ (s'.left, s'.rows)).trans h2) ⟨?_, ?_, ?_⟩
    · have hk : k ∈ s.met ++ [i] := hk
      rw [List.mem_append, List.mem_singleton] at hk
      rcases hk with hk | rfl
      · exact hm k hk
      · exact hi
    · show s.met ++ [i] = s'.met ++ [i]
      rw [h.met]
    · unfold stepN
      rw [ep]
      exact key.1
    · unfold stepN
      rw [ep]
      exact key.2
theorem cut_at_line {es : List Ent} {date : Int} {k : Nat} (h : k ∈ lineN (cutN es date)) : ∃ e, es[k]? = some e ∧ e.isStruck = false ∧ e.day ≤ date ∧ (cutN es date)[k]? = some e := by
  obtain ⟨e, he, hs⟩ := lineN_mem h
  rw [cut_at] at he
  cases e0 : es[k]? with
  | none => rw [e0] at he; cases he
  | some x =>
    rw [e0] at he
    have he : cutE date x = e := by simpa using he
    have hc : x.isStruck = false ∧ x.day ≤ date := by
      unfold cutE at he
      split at he
      · rename_i h1
        rw [← he, h1] at hs
        cases hs
      · rename_i h1
        split at he
        · rename_i h2
          exact ⟨by simpa using h1, h2⟩
        · rw [← he] at hs
          cases hs
    refine ⟨x, rfl, hc.1, hc.2, ?_⟩
    rw [cut_at, e0]
    unfold cutE
    simp [hc.1, hc.2]
theorem line_cut_mem {es : List Ent} {date : Int} {k : Nat} {e : Ent} (he : es[k]? = some e) (hs : e.isStruck = false) (hd : e.day ≤ date) : k ∈ lineN (cutN es date) := by
  refine lineN_has (e := e) ?_ hs
  rw [cut_at, he]
  unfold cutE
  simp [hs, hd]
/-- the whole laying: first what lies as of the day, then what has an entry of a greater day in it -/
theorem cut_front (es : List Ent) (date : Int) (ch : Ch) : ∃ ex : List Tri, (goneN es true ch).rows = (goneN (cutN es date) true ch).rows ++ ex ∧ ∀ t ∈ ex, ∃ (b p : Nat) (m : Int), t = ((b : Int), (p : Int), m) ∧ entB es b = true ∧ entB es p = false ∧ 0 < m ∧ ((b ∈ lineN es ∧ b ∉ lineN (cutN es date)) ∨ (p ∈ lineN es ∧ p ∉ lineN (cutN es date))) := by
  obtain ⟨R, hL⟩ := line_front es date
  have hB : ∀ k ∈ lineN (cutN es date), entB es k = entB (cutN es date) k := fun k hk => by
    obtain ⟨e, h1, _, _, h4⟩ := cut_at_line hk
    rw [entB_at h1, entB_at h4]
  have hN : ∀ k ∈ lineN (cutN es date), namedOf es k = namedOf (cutN es date) k := fun k hk => by
    obtain ⟨e, h1, _, _, h4⟩ := cut_at_line hk
    unfold namedOf
    rw [h1, h4]
  have nd : (lineN (cutN es date) ++ R).Nodup := by rw [← hL]; exact lineN_nodup es
  have n := List.nodup_append.mp nd
  have S := front_fold (ch := ch) hL (cut_len es date) hB hN (lineN (cutN es date)) ⟨es.map Ent.sum, [], []⟩ ⟨(cutN es date).map Ent.sum, [], []⟩ (fun _ h => h) (fun _ z => nomatch z) (by simp) (by simp [cut_len]) ⟨rfl, rfl, fun k hk => by
    obtain ⟨e, h1, _, _, h4⟩ := cut_at_line hk
    rw [lv_sums, lv_sums]
    unfold sumAt
    rw [h1, h4]⟩
  obtain ⟨ex, h1, h2⟩ := fold_ext (es := es) (ch := ch) R ((lineN (cutN es date)).foldl (stepN es ch (lineN es)) ⟨es.map Ent.sum, [], []⟩)
  have hR : ∀ k ∈ R, k ∈ lineN es ∧ k ∉ lineN (cutN es date) := fun k hk => ⟨by rw [hL]; exact List.mem_append_right _ hk, fun z => n.2.2 k z k hk rfl⟩
  refine ⟨ex, ?_, fun t ht => ?_⟩
  · have e1 : goneN es true ch = R.foldl (stepN es ch (lineN es)) ((lineN (cutN es date)).foldl (stepN es ch (lineN es)) ⟨es.map Ent.sum, [], []⟩) := by
      show (lineN es).foldl (stepN es ch (lineN es)) _ = _
      rw [← List.foldl_append, ← hL]
    rw [e1, h1, S.rows]
    rfl
  · obtain ⟨b, p, m, e, e1, e2, e3, e4⟩ := h2 t ht
    exact ⟨b, p, m, e, e1, e2, e3, e4.imp (hR b) (hR p)⟩
end VL

namespace VL
open PySem PySem.Spec PyProof.Rows L2 G
/-! ### what changes on a day: pure -/
def sumF {α : Type} (f : α → Int) (L : List α) : Int := (L.map f).sum
theorem sumF_cons {α : Type} (f : α → Int) (a : α) (L : List α) : sumF f (a :: L) = f a + sumF f L := by simp [sumF]
theorem sumF_app {α : Type} (f : α → Int) (L M : List α) : sumF f (L ++ M) = sumF f L + sumF f M := by simp [sumF, List.sum_append]
theorem sumF_add {α : Type} (f g : α → Int) : ∀ L : List α, sumF (fun k => f k + g k) L = sumF f L + sumF g L
  | [] => rfl
  | a :: L => by
    simp only [sumF_cons, sumF_add f g L]
    omega
theorem sumF_zero {α : Type} {f : α → Int} : ∀ {L : List α}, (∀ k ∈ L, f k = 0) → sumF f L = 0
  | [], _ => rfl
  | a :: L, h => by rw [sumF_cons, h a (by simp), sumF_zero fun k hk => h k (List.mem_cons_of_mem _ hk)]; rfl
theorem sumF_one {d m : Int} : ∀ {L : List Int}, L.Nodup → d ∈ L → sumF (fun k => if d = k then m else 0) L = m
  | [], _, h => nomatch h
  | a :: L, nd, h => by
    have n := List.nodup_cons.mp nd
    rw [sumF_cons]
    by_cases e : d = a
    · subst e
      rw [if_pos rfl, sumF_zero fun k hk => if_neg fun z => n.1 (by rw [z]; exact hk)]
      omega
    · have hd : d ∈ L := (List.mem_cons.mp h).resolve_left e
      rw [if_neg e, sumF_one n.2 hd]
      omega
theorem sumF_none {d m : Int} {L : List Int} (h : d ∉ L) : sumF (fun k => if d = k then m else 0) L = 0 := sumF_zero fun k hk => if_neg fun z => h (by rw [z]; exact hk)
end VL

namespace VL
open PySem PySem.Spec PyProof.Rows L2 G
def pkD (p : Nat × Int) : D := .tuple [.int (p.1 : Int), .int p.2]
def openN (es : List Ent) (dy : Bool) (ch : Ch) : List (Nat × Int) := (billsN es).map fun k => (k, lvN (goneN es dy ch).left k)
def stmtN (es : List Ent) (dy : Bool) (ch : Ch) : List (Nat × Int) := (openN es dy ch).filter fun p => decide (0 < p.2)
theorem gone_left {es : List Ent} {dy : Bool} {ch : Ch} : (goneN es dy ch).left.length = es.length := by
  have h : ∀ (W : List Nat) (st : GSt), (W.foldl (stepN es ch (lineN es)) st).left.length = st.left.length := fun W => by
    induction W with
    | nil => intro st; rfl
    | cons i W ih =>
      intro st
      rw [List.foldl_cons, ih]
      exact fold_len _ _ _ _
  unfold goneN
  rw [h]
  simp
theorem open_len {es : List Ent} {dy : Bool} {ch : Ch} : (openN es dy ch).length ≤ es.length := by
  unfold openN
  rw [List.length_map]
  exact bills_len
theorem stmt_len {es : List Ent} {dy : Bool} {ch : Ch} : (stmtN es dy ch).length ≤ es.length := Nat.le_trans (List.length_filter_le _ _) open_len
/-! ### the law's rests -/
theorem sumI_perm {L M : List Int} (h : L.Perm M) : L.sum = M.sum := by
  induction h with
  | nil => rfl
  | cons a _ ih => simp [ih]
  | swap a b l =>
    simp only [List.sum_cons]
    omega
  | trans _ _ h1 h2 => rw [h1, h2]
theorem on_laid {es : List Ent} {dy : Bool} {ch : Ch} (k : Nat) : onK (laidT es dy ch) k = onK (goneN es dy ch).rows k := sumI_perm ((sortT_perm _).map _)
theorem on_filter (k : Nat) : ∀ ts : List Tri, ((ts.filter fun t => decide ((k : Int) ∈ [t.1, t.2.1])).map fun t => t.2.2).sum = onK ts k
  | [] => rfl
  | t :: ts => by
    have ih := on_filter k ts
    have e : onK (t :: ts) k = onT k t + onK ts k := by simp [onK]
    rw [e, ← ih, List.filter_cons]
    unfold onT
    by_cases h1 : t.1 = (k : Int)
    · simp [h1]
    · have h3 : ¬ (k : Int) = t.1 := fun z => h1 z.symm
      by_cases h2 : t.2.1 = (k : Int)
      · simp [h2]
      · have h4 : ¬ (k : Int) = t.2.1 := fun z => h2 z.symm
        simp [h1, h2, h3, h4]
end VL

namespace VL
open PySem PySem.Spec PyProof.Rows L2 G
/-! ### what is laid on a bill up to a day: pure -/
theorem sumF_congr {α : Type} {f g : α → Int} : ∀ {L : List α}, (∀ k ∈ L, f k = g k) → sumF f L = sumF g L
  | [], _ => rfl
  | a :: L, h => by rw [sumF_cons, sumF_cons, h a (by simp), sumF_congr fun k hk => h k (List.mem_cons_of_mem _ hk)]
theorem sumF_le {α : Type} {f g : α → Int} : ∀ {L : List α}, (∀ k ∈ L, f k ≤ g k) → sumF f L ≤ sumF g L
  | [], _ => Int.le_refl _
  | a :: L, h => by
    have h1 := h a (by simp)
    have h2 := sumF_le (f := f) (g := g) fun k hk => h k (List.mem_cons_of_mem _ hk)
    rw [sumF_cons, sumF_cons]
    omega
theorem sumF_lt {α : Type} {f g : α → Int} : ∀ {L : List α}, (∀ k ∈ L, f k ≤ g k) → (∃ k ∈ L, f k < g k) → sumF f L < sumF g L
  | [], _, h => by
    obtain ⟨_, z, _⟩ := h
    cases z
  | a :: L, h, ⟨k, hk, hlt⟩ => by
    have h1 := h a (by simp)
    have h2 := sumF_le (f := f) (g := g) fun k hk => h k (List.mem_cons_of_mem _ hk)
    rw [sumF_cons, sumF_cons]
    rcases List.mem_cons.mp hk with rfl | hk
    · omega
    · have h3 := sumF_lt (f := f) (g := g) (fun k hk => h k (List.mem_cons_of_mem _ hk)) ⟨k, hk, hlt⟩
      omega
theorem sumF_perm {α : Type} (f : α → Int) {L M : List α} (h : L.Perm M) : sumF f L = sumF f M := sumI_perm (h.map f)
theorem sumF_filter {α : Type} (f : α → Int) (c : α → Bool) : ∀ L : List α, sumF f (L.filter c) = sumF (fun k => if c k = true then f k else 0) L
  | [] => rfl
  | a :: L => by
    rw [List.filter_cons, sumF_cons, ← sumF_filter f c L]
    by_cases h : c a = true
    · rw [if_pos h, if_pos h, sumF_cons]
    · rw [if_neg h, if_neg h]
      omega
theorem sumF_map {α β : Type} (f : β → Int) (g : α → β) (L : List α) : sumF f (L.map g) = sumF (fun x => f (g x)) L := by
  unfold sumF
  rw [List.map_map]
  rfl
def dayAt (es : List Ent) (k : Nat) : Int := match es[k]? with
  | some e => e.day
  | none => 0
theorem dayAt_at {es : List Ent} {k : Nat} {e : Ent} (h : es[k]? = some e) : dayAt es k = e.day := by
  unfold dayAt
  rw [h]
theorem sumAt_at {es : List Ent} {k : Nat} {e : Ent} (h : es[k]? = some e) : sumAt es k = e.sum := by
  unfold sumAt
  rw [h]
theorem bill_ns {e : Ent} (h : e.isBill = true) : e.isStruck = false := by cases e <;> first | rfl | cases h
structure Row (es : List Ent) (t : Tri) : Prop where
  is : ∃ (b p : Nat) (m : Int) (eb ep : Ent), t = ((b : Int), (p : Int), m) ∧ es[b]? = some eb ∧ es[p]? = some ep ∧ eb.isBill = true ∧ ep.isBill = false ∧ ep.isStruck = false ∧ 0 < m
theorem row_at {es : List Ent} {dy : Bool} {ch : Ch} {t : Tri} (h : t ∈ (goneN es dy ch).rows) : Row es t := by
  obtain ⟨r, hm⟩ := gone_rowsOk (es := es) (dy := dy) (ch := ch)
  obtain ⟨b, p, m, rfl, mb, mp, eb, ep, hm2⟩ := r.row t h
  rw [hm] at mb mp
  obtain ⟨e1, h1, s1⟩ := walkN_mem mb
  obtain ⟨e2, h2, s2⟩ := walkN_mem mp
  rw [entB_at h1] at eb
  rw [entB_at h2] at ep
  exact ⟨b, p, m, e1, e2, rfl, h1, h2, eb, ep, s2, hm2⟩
end VL

namespace VL
open PySem PySem.Spec PyProof.Rows L2 G
/-! ### a laying has no more rows than the account has entries -/
def upC (ls : List Int) (k : Nat) : Int := if 0 < lvN ls k then 1 else 0
def upS (n : Nat) (ls : List Int) : Int := sumF (upC ls) (List.range n)
theorem pair_count {es : List Ent} {i o n : Nat} {s : List Int × List Tri} (hn : s.1.length = n) (hi : i < s.1.length) (ho : o < s.1.length) (hoi : o ≠ i) : ((pairN es i s o).2.length : Int) + upS n (pairN es i s o).1 ≤ s.2.length + upS n s.1 := by
  by_cases hp : 0 < minV (lvN s.1 i) (lvN s.1 o)
  · have hle : ∀ k ∈ List.range n, upC (pairN es i s o).1 k ≤ upC s.1 k := fun k _ => by
      have := pair_le (es := es) (k := k) hi ho hoi
      unfold upC
      split <;> split <;> omega
    have hmi : 0 < lvN s.1 i ∧ 0 < lvN s.1 o := by
      unfold minV at hp
      split at hp <;> omega
    have hlv : ∀ k, lvN (pairN es i s o).1 k = if k = o then lvN s.1 o - minV (lvN s.1 i) (lvN s.1 o) else if k = i then lvN s.1 i - minV (lvN s.1 i) (lvN s.1 o) else lvN s.1 k := fun k => by
      unfold pairN
      rw [if_pos hp]
      dsimp only
      rw [lvN_set _ _ _ _ (by rw [List.length_set]; exact ho), lvN_set _ _ _ _ hi]
    have hlt : ∃ k ∈ List.range n, upC (pairN es i s o).1 k < upC s.1 k := by
      by_cases h : lvN s.1 o < lvN s.1 i
      · refine ⟨o, List.mem_range.mpr (by omega), ?_⟩
        have e := hlv o
        rw [if_pos rfl] at e
        unfold minV at e
        rw [if_pos h] at e
        unfold upC
        rw [e, if_neg (by omega), if_pos hmi.2]
        decide
      · refine ⟨i, List.mem_range.mpr (by omega), ?_⟩
        have e := hlv i
        rw [if_neg (Ne.symm hoi), if_pos rfl] at e
        unfold minV at e
        rw [if_neg h] at e
        unfold upC
        rw [e, if_neg (by omega), if_pos hmi.1]
        decide
    have h1 := sumF_lt hle hlt
    have h2 : (pairN es i s o).2.length = s.2.length + 1 := by
      unfold pairN
      rw [if_pos hp]
      simp
    unfold upS
    rw [h2]
    omega
  · have e : pairN es i s o = s := by
      unfold pairN
      rw [if_neg hp]
    rw [e]
    exact Int.le_refl _
theorem fold_count {es : List Ent} {i n : Nat} : ∀ (R : List Nat) (s : List Int × List Tri), s.1.length = n → i < s.1.length → (∀ o ∈ R, o < s.1.length ∧ o ≠ i) → ((R.foldl (pairN es i) s).2.length : Int) + upS n (R.foldl (pairN es i) s).1 ≤ s.2.length + upS n s.1
  | [], s, _, _, _ => Int.le_refl _
  | o :: R, s, hn, hi, h => by
    have h1 := pair_count (es := es) hn hi (h o (by simp)).1 (h o (by simp)).2
    have h2 := fold_count (es := es) (n := n) (i := i) R (pairN es i s o) (by rw [pairN_len]; exact hn) (by rw [pairN_len]; exact hi) fun x hx => by
      rw [pairN_len]
      exact h x (List.mem_cons_of_mem _ hx)
    rw [List.foldl_cons]
    omega
theorem step_count {es : List Ent} {ch : Ch} {st : GSt} {i : Nat} (hi : i ∈ lineN es) (hl : st.left.length = es.length) : ((stepN es ch (lineN es) st i).rows.length : Int) + upS es.length (stepN es ch (lineN es) st i).left ≤ st.rows.length + upS es.length st.left := by
  have ndO : (othersN (lineN es) st.met st.left).Nodup := (lineN_nodup es).filter _
  refine fold_count (es := es) (partN es ch st.left i (othersN (lineN es) st.met st.left)) (st.left, st.rows) hl (by show i < st.left.length; rw [hl]; exact lineN_lt hi) fun o ho => ?_
  obtain ⟨a, b⟩ := part_sub ndO ho
  exact ⟨by show o < st.left.length; rw [hl]; exact lineN_lt (List.mem_filter.mp a).1, b⟩
theorem walk_count {es : List Ent} {ch : Ch} : ∀ (W : List Nat) (st : GSt), (∀ k ∈ W, k ∈ lineN es) → st.left.length = es.length → ((W.foldl (stepN es ch (lineN es)) st).rows.length : Int) + upS es.length (W.foldl (stepN es ch (lineN es)) st).left ≤ st.rows.length + upS es.length st.left
  | [], st, _, _ => Int.le_refl _
  | i :: W, st, hW, hl => by
    have h1 := step_count (ch := ch) (hW i (by simp)) hl
    have h2 := walk_count (ch := ch) W (stepN es ch (lineN es) st i) (fun k hk => hW k (List.mem_cons_of_mem _ hk)) ((fold_len es i _ (st.left, st.rows)).trans hl)
    rw [List.foldl_cons]
    omega
theorem upS_bound (n : Nat) (ls : List Int) : 0 ≤ upS n ls ∧ upS n ls ≤ n := by
  unfold upS
  have : ∀ L : List Nat, 0 ≤ sumF (upC ls) L ∧ sumF (upC ls) L ≤ L.length := fun L => by
    induction L with
    | nil => simp [sumF]
    | cons a L ih =>
      have h : 0 ≤ upC ls a ∧ upC ls a ≤ 1 := by
        unfold upC
        split <;> decide
      have e : sumF (upC ls) (a :: L) = upC ls a + sumF (upC ls) L := sumF_cons _ _ _
      rw [e, List.length_cons]
      omega
  have h := this (List.range n)
  rw [List.length_range] at h
  exact h
theorem rows_few {es : List Ent} {dy : Bool} {ch : Ch} : (laidT es dy ch).length ≤ es.length := by
  have h1 := walk_count (es := es) (ch := ch) (walkN es dy) ⟨es.map Ent.sum, [], []⟩ (fun k hk => (walkN_perm es dy).mem_iff.mp hk) (by simp)
  have h2 := (upS_bound es.length (goneN es dy ch).left).1
  have h3 := (upS_bound es.length (es.map Ent.sum)).2
  have h4 : (laidT es dy ch).length = (goneN es dy ch).rows.length := (sortT_perm _).length_eq
  have h5 : ((goneN es dy ch).rows.length : Int) + upS es.length (goneN es dy ch).left ≤ 0 + upS es.length (es.map Ent.sum) := h1
  omega
end VL

namespace VL
open PySem PySem.Spec PyProof.Rows L2 G
/-! ### rows as a list, whichever way they stand: pure -/
structure Lay (es : List Ent) (rows : List Tri) : Prop where
  row : ∀ t ∈ rows, Row es t
  nd : (rows.map bp).Nodup
theorem lay_gone {es : List Ent} {dy : Bool} {ch : Ch} : Lay es (goneN es dy ch).rows := ⟨fun _ h => row_at h, gone_rowsOk.1.nd⟩
theorem lay_perm {es : List Ent} {A B : List Tri} (h : A.Perm B) (w : Lay es B) : Lay es A := ⟨fun t ht => w.row t (h.mem_iff.mp ht), ((h.map bp).nodup_iff).mpr w.nd⟩
theorem lay_laid {es : List Ent} {dy : Bool} {ch : Ch} : Lay es (laidT es dy ch) := lay_perm (sortT_perm _) lay_gone
theorem laid_perm {es : List Ent} {dy : Bool} {ch : Ch} : (laidT es dy ch).Perm (goneN es dy ch).rows := sortT_perm _
/-- what a pair has -/
def amt (rows : List Tri) (b p : Nat) : Option Int := (rows.find? fun t => decide (t.1 = (b : Int)) && decide (t.2.1 = (p : Int))).map fun t => t.2.2
theorem amt_some {es : List Ent} {rows : List Tri} (w : Lay es rows) {b p : Nat} {m : Int} : amt rows b p = some m ↔ ((b : Int), (p : Int), m) ∈ rows := by
  unfold amt
  constructor
  · intro h
    cases e : rows.find? fun t => decide (t.1 = (b : Int)) && decide (t.2.1 = (p : Int)) with
    | none => rw [e] at h; cases h
    | some t =>
      rw [e] at h
      have h1 := List.find?_some e
      have h2 := List.mem_of_find?_eq_some e
      rw [Bool.and_eq_true, decide_eq_true_eq, decide_eq_true_eq] at h1
      have h : t.2.2 = m := by simpa using h
      obtain ⟨a, b', c⟩ := t
      dsimp only at h1 h
      rw [← h1.1, ← h1.2, ← h]
      exact h2
  · intro h
    have hs : (rows.find? fun t => decide (t.1 = (b : Int)) && decide (t.2.1 = (p : Int))).isSome = true := by
      rw [List.find?_isSome]
      exact ⟨_, h, by simp⟩
    obtain ⟨t, e⟩ := Option.isSome_iff_exists.mp hs
    rw [e]
    have h1 := List.find?_some e
    have h2 := List.mem_of_find?_eq_some e
    rw [Bool.and_eq_true, decide_eq_true_eq, decide_eq_true_eq] at h1
    have : t = ((b : Int), (p : Int), m) := by
      refine Decidable.byContradiction fun hne => ?_
      have := List.pairwise_map.mp w.nd
      rw [List.pairwise_iff_forall_sublist] at this
      have hh : ∀ l : List Tri, t ∈ l → ((b : Int), (p : Int), m) ∈ l → [t, ((b : Int), (p : Int), m)].Sublist l ∨ [((b : Int), (p : Int), m), t].Sublist l := by
        intro l
        induction l with
        | nil => exact fun z => nomatch z
        | cons x l ih =>
          intro a1 a2
          rcases List.mem_cons.mp a1 with e1 | c1
          · rcases List.mem_cons.mp a2 with e2 | c2
            · exact absurd (e1.trans e2.symm) hne
            · rw [e1]
              exact .inl (List.Sublist.cons_cons _ (List.singleton_sublist.mpr c2))
          · rcases List.mem_cons.mp a2 with e2 | c2
            · rw [e2]
              exact .inr (List.Sublist.cons_cons _ (List.singleton_sublist.mpr c1))
            · exact (ih c1 c2).imp (fun z => z.cons _) (fun z => z.cons _)
      rcases hh rows h2 h with z | z
      · exact this z (Prod.ext h1.1 h1.2)
      · exact this z (Prod.ext h1.1.symm h1.2.symm)
    rw [this]
    rfl
theorem putK0_app : ∀ (L : List (Key × D)) (acc : DKV), (∀ p ∈ L, (acc.any fun q => decide (q.1 = [p.1])) = false) → (L.map (·.1)).Nodup → L.foldl putK0 acc = acc ++ L.map fun p => ([p.1], p.2)
  | [], acc, _, _ => by simp
  | p :: L, acc, h, nd => by
    have n := List.nodup_cons.mp (show (p.1 :: L.map (·.1)).Nodup from nd)
    have e : putK0 acc p = acc ++ [([p.1], p.2)] := by
      unfold putK0 putD
      rw [if_neg (by rw [h p (by simp)]; decide)]
    rw [List.foldl_cons, e, putK0_app L _ (fun q hq => ?_) n.2]
    · simp
    · rw [List.any_append, h q (List.mem_cons_of_mem _ hq), Bool.false_or]
      have : ¬ ([p.1] : List Key) = [q.1] := fun z => n.1 (by
        injection z with z _
        rw [z]
        exact List.mem_map.mpr ⟨q, hq, rfl⟩)
      simp [this]
theorem putK0_nil {L : List (Key × D)} (nd : (L.map (·.1)).Nodup) : L.foldl putK0 [] = L.map fun p => ([p.1], p.2) := by
  rw [putK0_app L [] (fun _ _ => rfl) nd]
  rfl
/-- the payments of a bill, and how much: a dict -/
def payD (rows : List Tri) (k : Nat) : DKV := (rows.filter fun t => decide (t.1 = (k : Int))).map fun t => ([Sum.inl t.2.1], .int t.2.2)
theorem val_payD (k p : Nat) : ∀ rows : List Tri, valD (payD rows k) [.inl (p : Int)] = (amt rows k p).map .int
  | [] => rfl
  | t :: rows => by
    have ih := val_payD k p rows
    unfold payD valD amt at ih ⊢
    rw [List.filter_cons, List.find?_cons]
    by_cases h1 : t.1 = (k : Int)
    · rw [if_pos (by simp [h1]), List.map_cons, List.find?_cons]
      by_cases h2 : t.2.1 = (p : Int)
      · simp [h1, h2]
      · have h3 : ¬ ([Sum.inl t.2.1] : List Key) = [Sum.inl (p : Int)] := fun z => h2 (by
          injection z with z _
          injection z)
        simp only [h3, h1, h2, decide_false, decide_true, Bool.and_false]
        exact ih
    · rw [if_neg (by simp [h1])]
      simp only [h1, decide_false, Bool.false_and]
      exact ih
theorem payD_of {es : List Ent} {rows : List Tri} (w : Lay es rows) (k : Nat) : (rows.filterMap fun t => if decide (t.1 = (k : Int)) = true then some ((Sum.inl t.2.1 : Key), PyData.int t.2.2) else none).foldl putK0 [] = payD rows k := by
  rw [← map_filt (c := fun t : Tri => decide (t.1 = (k : Int))) (f := fun t : Tri => ((Sum.inl t.2.1 : Key), PyData.int t.2.2)), putK0_nil, List.map_map]
  · rfl
  · rw [List.map_map]
    have h1 : ((rows.filter fun t => decide (t.1 = (k : Int))).map bp).Nodup := by
      have : ((rows.filter fun t => decide (t.1 = (k : Int))).map bp).Sublist (rows.map bp) := List.filter_sublist.map bp
      exact this.nodup w.nd
    have h2 : ∀ t ∈ rows.filter (fun t => decide (t.1 = (k : Int))), t.1 = (k : Int) := fun t ht => of_decide_eq_true (List.mem_filter.mp ht).2
    generalize rows.filter (fun t => decide (t.1 = (k : Int))) = ts at h1 h2
    have h1 := List.pairwise_map.mp h1
    refine List.pairwise_map.mpr (h1.imp_of_mem fun {a b} ha hb hne z => hne ?_)
    have z : (Sum.inl a.2.1 : Key) = Sum.inl b.2.1 := z
    injection z with z
    exact Prod.ext ((h2 a ha).trans (h2 b hb).symm) z
end VL

namespace VL
open PySem PySem.Spec PyProof.Rows L2 G
/-! ### a laying as a dict by its pairs -/
def kyT (t : Tri) : List Key := [Sum.inl t.1, Sum.inl t.2.1]
def sumD (ts : List Tri) : DKV := ts.map fun t => (kyT t, .int t.2.2)
theorem sumD_len (ts : List Tri) : (sumD ts).length = ts.length := by simp [sumD]
theorem kyT_iff {a b : Tri} : kyT a = kyT b ↔ bp a = bp b := by
  unfold kyT bp
  constructor
  · intro h
    injection h with h1 h2
    injection h1 with h1
    injection h2 with h2 _
    injection h2 with h2
    rw [h1, h2]
  · intro h
    have h1 := congrArg Prod.fst h
    have h2 := congrArg Prod.snd h
    dsimp only at h1 h2
    rw [h1, h2]
theorem sumD_new {ts : List Tri} {t : Tri} (h : bp t ∉ ts.map bp) : putD (sumD ts) (kyT t) (.int t.2.2) = sumD (ts ++ [t]) := by
  unfold putD
  rw [if_neg]
  · unfold sumD
    rw [List.map_append]
    rfl
  · intro z
    rw [List.any_eq_true] at z
    obtain ⟨p, hp, e⟩ := z
    obtain ⟨u, hu, rfl⟩ := List.mem_map.mp hp
    have e := kyT_iff.mp (of_decide_eq_true e)
    exact h (by rw [← e]; exact List.mem_map.mpr ⟨u, hu, rfl⟩)
theorem val_sumD {ts : List Tri} (nd : (ts.map bp).Nodup) {t : Tri} (h : t ∈ ts) : valD (sumD ts) (kyT t) = some (.int t.2.2) := by
  unfold valD
  induction ts with
  | nil => cases h
  | cons u ts ih =>
    have n := List.nodup_cons.mp (show (bp u :: ts.map bp).Nodup from nd)
    show ((((kyT u, PyData.int u.2.2) :: sumD ts).find? fun p => decide (p.1 = kyT t)).map fun p => p.2) = _
    rw [List.find?_cons]
    rcases List.mem_cons.mp h with rfl | h
    · simp
    · have : ¬ kyT u = kyT t := fun z => n.1 (by rw [kyT_iff.mp z]; exact List.mem_map.mpr ⟨t, h, rfl⟩)
      simp only [this, decide_false]
      exact ih n.2 h
theorem sameD_sumD {ts : List Tri} (nd : (ts.map bp).Nodup) : sameD (sumD ts) (sumD ts) = true := by
  unfold sameD
  rw [Bool.and_eq_true]
  refine ⟨by simp, List.all_eq_true.mpr fun p hp => ?_⟩
  obtain ⟨t, ht, rfl⟩ := List.mem_map.mp hp
  show (match PyData.int t.2.2, valD (sumD ts) (kyT t) with | .int a, some (.int b) => decide (a = b) | _, _ => false) = true
  rw [val_sumD nd ht]
  simp
theorem s_sums_of {ts : List Tri} (nd : (ts.map bp).Nodup) (hz : ts.length ≤ 1000000) : O2 (C_sums_of [.va (.list (ts.map triD))]) fun r en => r = (true, sumD ts) := by
  refine w_fnD 5 ?_
  try simp only [List.length_cons, List.length_nil, Nat.reduceAdd, Nat.reduceSub, List.replicate_succ, List.replicate_zero, List.cons_append, List.nil_append]
  unfold f__law_sums_of
  refine st_ ?_
  try simp only [List.set_cons_zero, List.set_cons_succ, List.map_cons, List.map_nil, mdSl, putBack, wipeE, permL, List.filterMap_cons, List.filterMap_nil, List.getElem?_cons_zero, List.getElem?_cons_succ]
  refine w_foldX (e := triD) (fun (W : List Tri) (st : List Tri) en => ∃ s2 s3 s4 : Sl, en = [.va (.list (ts.map triD)), .dc ⟨true, false⟩ (sumD st), s2, s3, s4] ∧ st ++ W = ts) (fun st t => st ++ [t]) ts [] _ ⟨_, _, _, rfl, rfl⟩ (fun t W st en hI => ?_) fun en hI => ?_
  · obtain ⟨s2, s3, s4, rfl, hsp⟩ := hI
    have hnew : bp t ∉ st.map bp := fun z => by
      rw [← hsp, List.map_append] at nd
      exact (List.nodup_append.mp nd).2.2 _ z (bp t) (by simp) rfl
    have hlen : st.length < 1000001 := by
      have := congrArg List.length hsp
      rw [List.length_append, List.length_cons] at this
      omega
    refine w_turn ?_
    unfold triD
    refine st_ ?_
    try simp only [List.set_cons_zero, List.set_cons_succ, List.map_cons, List.map_nil, mdSl, putBack, wipeE, permL, List.filterMap_cons, List.filterMap_nil, List.getElem?_cons_zero, List.getElem?_cons_succ]
    refine st_ ?_
    refine ⟨true, _, kyT t, rfl, rfl, by rw [sumD_len]; exact Nat.lt_of_lt_of_le hlen (by decide), ?_⟩
    rw [sumD_new hnew]
    exact ⟨_, .inl rfl, _, _, _, rfl, by rw [← hsp]; simp⟩
  · obtain ⟨s2, s3, s4, rfl, hsp⟩ := hI
    rw [List.append_nil] at hsp
    rw [hsp]
    refine st_ ?_
    rfl
end VL

namespace VL
open PySem PySem.Spec PyProof.Rows L2 G
/-- the days and indexes of the entries that are not struck -/
theorem s_is_int (d : D) : O2 (C_is_int [.va d]) fun r en => r = .bool (isiD d "int" && !isiD d "bool") := by
  refine w_fn 1 ?_
  try simp only [List.length_cons, List.length_nil, Nat.reduceAdd, Nat.reduceSub, List.replicate_succ, List.replicate_zero, List.cons_append, List.nil_append]
  unfold f__law_is_int
  refine st_ ?_
  refine ⟨fun h => ?_, fun h => ?_⟩
  · refine st_ ?_
    show _ = _
    rw [h]
    rfl
  · show _ = _
    rw [h]
    rfl
/-! ### what is like -/
theorem s_like_int (n : Nat) (i : Int) : O2 (C_like (n + 1) [.va (.int i), .va (.int i)]) fun r en => r = .bool true := by
  refine w_fn 4 ?_
  try simp only [List.length_cons, List.length_nil, Nat.reduceAdd, Nat.reduceSub, List.replicate_succ, List.replicate_zero, List.cons_append, List.nil_append]
  unfold f__law_like
  refine st_ ?_
  refine x_f (by simp [PyData.eqv, typD, isiD, isNone]; done) ?_
  refine st_ ?_
  refine x_f (by simp [PyData.eqv, typD, isiD, isNone]; done) ?_
  refine st_ ?_
  refine x_f (by simp [PyData.eqv, typD, isiD, isNone]; done) ?_
  refine st_ ?_
  refine x_t (by simp [PyData.eqv, typD, isiD, isNone]; done) ?_
  refine st_ ?_
  refine (s_is_int _).mono ?_
  rintro _ _ rfl
  refine st_ ?_
  try simp only [List.set_cons_zero, List.set_cons_succ, List.map_cons, List.map_nil, mdSl, putBack, wipeE, permL, List.filterMap_cons, List.filterMap_nil, List.getElem?_cons_zero, List.getElem?_cons_succ]
  refine x_t (by simp [PyData.eqv, typD, isiD, isNone]; done) ?_
  refine st_ ?_
  show _ = _
  simp [PyData.eqv]
theorem zipD_self : ∀ ds : List D, zipD ds ds = ds.map fun d => .tuple [d, d]
  | [] => rfl
  | d :: r => by
    unfold zipD
    rw [zipD_self r]
    rfl
theorem all_some (xs : List D) : gAll [.list ((xs.filterMap fun _ => some true).map .bool)] = some (.bool true) := by
  unfold gAll
  simp only [boolsOf_map]
  have : (xs.filterMap fun _ => some true).all id = true := by
    rw [List.all_eq_true]
    intro b hb
    rw [List.mem_filterMap] at hb
    obtain ⟨_, _, e⟩ := hb
    cases e
    rfl
  rw [this]
theorem s_like_list (n : Nat) (ds : List D) (hl : ds.length ≤ 10000) (h : ∀ d ∈ ds, O2 (C_like n [.va d, .va d]) fun r en => r = .bool true) : O2 (C_like (n + 1) [.va (.list ds), .va (.list ds)]) fun r en => r = .bool true := by
  refine w_fn 4 ?_
  try simp only [List.length_cons, List.length_nil, Nat.reduceAdd, Nat.reduceSub, List.replicate_succ, List.replicate_zero, List.cons_append, List.nil_append]
  unfold f__law_like
  refine st_ ?_
  refine x_t (by simp [PyData.eqv, typD, isiD, isNone]; done) ?_
  refine st_ ?_
  refine x_t (by simp [PyData.eqv, typD, isiD, isNone]; done) ?_
  refine st_ ?_
  refine x_f (by simp [PyData.eqv, typD, isiD, isNone]; done) ?_
  refine st_ ?_
  refine x_f (by simp [PyData.eqv, typD, isiD, isNone]; done) ?_
  refine st_ ?_
  refine x_t (by simp [PyData.eqv, typD, isiD, isNone]; done) ?_
  refine st_ ?_
  refine O1.of (x := zpD _) rfl ?_
  refine st_ ?_
  try simp only [List.set_cons_zero, List.set_cons_succ, List.map_cons, List.map_nil, mdSl, putBack, wipeE, permL, List.filterMap_cons, List.filterMap_nil, List.getElem?_cons_zero, List.getElem?_cons_succ]
  rw [zipD_self]
  refine w_compD (fun _ => (some true).map PyData.bool) (Nat.le_trans hl (by decide)) (fun d hd => ?_) ?_
  · refine st_ ?_
    refine (h d hd).mono ?_
    rintro _ _ rfl
    exact ⟨rfl, rfl⟩
  rw [← List.map_filterMap]
  refine st_ ?_
  refine O1.of (all_some ds) ?_
  rfl
theorem s_like_ints (n : Nat) (ns : List Int) (hl : ns.length ≤ 10000) : O2 (C_like (n + 2) [.va (.list (ns.map .int)), .va (.list (ns.map .int))]) fun r en => r = .bool true :=
  s_like_list (n + 1) _ (by rw [List.length_map]; exact hl) fun d hd => by
    rw [List.mem_map] at hd
    obtain ⟨i, _, rfl⟩ := hd
    exact s_like_int n i
theorem s_like_rows (n : Nat) (nss : List (List Int)) (hl : nss.length ≤ 10000) (h : ∀ ns ∈ nss, ns.length ≤ 10000) : O2 (C_like (n + 3) [.va (.list (nss.map fun ns => .list (ns.map .int))), .va (.list (nss.map fun ns => .list (ns.map .int)))]) fun r en => r = .bool true :=
  s_like_list (n + 2) _ (by rw [List.length_map]; exact hl) fun d hd => by
    rw [List.mem_map] at hd
    obtain ⟨ns, hn, rfl⟩ := hd
    exact s_like_ints n ns (h ns hn)
end VL

namespace VL
open PySem PySem.Spec PyProof.Rows L2 G
theorem s_like_tup (n : Nat) (ds : List D) (hl : ds.length ≤ 10000) (h : ∀ d ∈ ds, O2 (C_like n [.va d, .va d]) fun r en => r = .bool true) : O2 (C_like (n + 1) [.va (.tuple ds), .va (.tuple ds)]) fun r en => r = .bool true := by
  refine w_fn 4 ?_
  try simp only [List.length_cons, List.length_nil, Nat.reduceAdd, Nat.reduceSub, List.replicate_succ, List.replicate_zero, List.cons_append, List.nil_append]
  unfold f__law_like
  refine st_ ?_
  refine x_t (by simp [PyData.eqv, typD, isiD, isNone]; done) ?_
  refine st_ ?_
  refine x_f (by simp [PyData.eqv, typD, isiD, isNone]; done) ?_
  refine st_ ?_
  refine x_t (by simp [PyData.eqv, typD, isiD, isNone]; done) ?_
  refine st_ ?_
  refine x_f (by simp [PyData.eqv, typD, isiD, isNone]; done) ?_
  refine st_ ?_
  refine x_t (by simp [PyData.eqv, typD, isiD, isNone]; done) ?_
  refine st_ ?_
  refine O1.of (x := zpD _) rfl ?_
  refine st_ ?_
  try simp only [List.set_cons_zero, List.set_cons_succ, List.map_cons, List.map_nil, mdSl, putBack, wipeE, permL, List.filterMap_cons, List.filterMap_nil, List.getElem?_cons_zero, List.getElem?_cons_succ]
  rw [zipD_self]
  refine w_compD (fun _ => (some true).map PyData.bool) (Nat.le_trans hl (by decide)) (fun d hd => ?_) ?_
  · refine st_ ?_
    refine (h d hd).mono ?_
    rintro _ _ rfl
    exact ⟨rfl, rfl⟩
  rw [← List.map_filterMap]
  refine st_ ?_
  refine O1.of (all_some ds) ?_
  rfl
theorem s_like_tris (n : Nat) (ts : List Tri) (hl : ts.length ≤ 10000) : O2 (C_like (n + 3) [.va (.list (ts.map triD)), .va (.list (ts.map triD))]) fun r en => r = .bool true :=
  s_like_list (n + 2) _ (by rw [List.length_map]; exact hl) fun d hd => by
    obtain ⟨t, _, rfl⟩ := List.mem_map.mp hd
    refine s_like_tup (n + 1) _ (show 3 ≤ 10000 by decide) fun d hd => ?_
    simp only [List.mem_cons, List.not_mem_nil, or_false] at hd
    rcases hd with rfl | rfl | rfl <;> exact s_like_int n _
end VL

namespace VL
open PySem PySem.Spec PyProof.Rows L2 G
end VL

namespace VL
open PySem PySem.Spec PyProof.Rows L2 G
theorem s_laid_by {es : List Ent} {dy : Bool} {ch : Ch} (hz : es.length ≤ 1000) : O2 (C_laid_by [.va (accD es), .va (manD dy ch)]) fun ds en => ds = (laidT es dy ch).map triD := by
  refine w_fnL 4 ?_
  try simp only [List.length_cons, List.length_nil, Nat.reduceAdd, Nat.reduceSub, List.replicate_succ, List.replicate_zero, List.cons_append, List.nil_append]
  unfold f_laid_by
  refine st_ ?_
  try simp only [List.set_cons_zero, List.set_cons_succ, List.map_cons, List.map_nil, mdSl, putBack, wipeE, permL, List.filterMap_cons, List.filterMap_nil, List.getElem?_cons_zero, List.getElem?_cons_succ]
  refine (s_gone hz).mono ?_
  rintro _ _ rfl
  refine st_ ?_
  refine O1.of (gSortA_tri (Nat.le_of_lt (rows_cap (gone_rows hz)))) ?_
  rfl
end VL

namespace VL
open PySem PySem.Spec PyProof.Rows L2 G
/-! ### the pairs that moved -/
def amtI (ts : List Tri) (q : Int × Int) : Int := ((ts.find? fun t => decide (bp t = q)).map fun t => t.2.2).getD 0
theorem get_sumD (q : Int × Int) : ∀ ts : List Tri, (valD (sumD ts) [.inl q.1, .inl q.2]).getD (.int 0) = .int (amtI ts q)
  | [] => rfl
  | t :: ts => by
    have ih := get_sumD q ts
    unfold sumD valD amtI at ih ⊢
    rw [List.map_cons, List.find?_cons, List.find?_cons]
    by_cases h : bp t = q
    · subst h
      simp [kyT]
    · have h3 : ¬ kyT t = [Sum.inl q.1, Sum.inl q.2] := fun z => h (by
        unfold kyT at z
        injection z with z1 z2
        injection z2 with z2 _
        injection z1 with z1
        injection z2 with z2
        exact Prod.ext z1 z2)
      simp only [h3, h, decide_false]
      exact ih
theorem sumD_fold : ∀ (L pre : List Tri), ((pre ++ L).map bp).Nodup → (L.map fun t => (kyT t, PyData.int t.2.2)).foldl putT0 (sumD pre) = sumD (pre ++ L)
  | [], pre, _ => by simp
  | t :: L, pre, nd => by
    have hn : bp t ∉ pre.map bp := fun z => by
      rw [List.map_append, List.map_cons] at nd
      exact (List.nodup_append.mp nd).2.2 _ z (bp t) (by simp) rfl
    rw [List.map_cons, List.foldl_cons, show putT0 (sumD pre) (kyT t, PyData.int t.2.2) = sumD (pre ++ [t]) from sumD_new hn, sumD_fold L (pre ++ [t]) (by simpa using nd)]
    simp
theorem sumD_of {ts : List Tri} (nd : (ts.map bp).Nodup) : (ts.filterMap fun t => some (kyT t, PyData.int t.2.2)).foldl putT0 [] = sumD ts := by
  rw [List.filterMap_eq_map']
  exact sumD_fold ts [] (by simpa using nd)
def pairsU (A B : List Tri) : List (Int × Int) := setP (A.map bp ++ B.map bp)
def movesN (A B : List Tri) : List (Int × Int) := (pairsU A B).filter fun q => decide (amtI A q ≠ amtI B q)
def mvD (A B : List Tri) (q : Int × Int) : D := .tuple [.int q.1, .int q.2, .int (amtI A q), .int (amtI B q)]
theorem pairsU_len {A B : List Tri} : (pairsU A B).length ≤ A.length + B.length := by
  unfold pairsU setP
  rw [(sortP_perm _).length_eq]
  have : ∀ L : List (Int × Int), (uniqP L).length ≤ L.length := fun L => by
    induction L with
    | nil => exact Nat.le_refl _
    | cons a L ih =>
      unfold uniqP
      split <;> simp <;> omega
  have h := this (A.map bp ++ B.map bp)
  simp at h
  exact h
theorem moves_len {A B : List Tri} : (movesN A B).length ≤ A.length + B.length := Nat.le_trans (List.length_filter_le _ _) pairsU_len
theorem moves_self (A : List Tri) : movesN A A = [] := by
  unfold movesN
  rw [List.filter_eq_nil_iff]
  intro q _ z
  simp at z
theorem keys_sumD (A : List Tri) : (sumD A).map (fun p => kToD true p.1) = (A.map bp).map pairD := by
  unfold sumD
  rw [List.map_map, List.map_map]
  rfl
def NN (A : List Tri) : Prop := ∀ t ∈ A, 0 ≤ t.1 ∧ 0 ≤ t.2.1
theorem nn_laid {es : List Ent} {A : List Tri} (w : Lay es A) : NN A := fun t ht => by
  obtain ⟨b, p, m, eb, ep, rfl, _⟩ := (w.row t ht).is
  exact ⟨Int.natCast_nonneg b, Int.natCast_nonneg p⟩
theorem nn_all {A B : List Tri} (hA : NN A) (hB : NN B) : ((A.map bp ++ B.map bp).all fun q => decide (0 ≤ q.1) && decide (0 ≤ q.2)) = true := by
  rw [List.all_eq_true]
  intro q hq
  rw [Bool.and_eq_true, decide_eq_true_eq, decide_eq_true_eq]
  rcases List.mem_append.mp hq with h | h
  · obtain ⟨t, ht, rfl⟩ := List.mem_map.mp h
    exact hA t ht
  · obtain ⟨t, ht, rfl⟩ := List.mem_map.mp h
    exact hB t ht
theorem cat_pairs {A B : List Tri} (h : A.length + B.length < 64) : gAdd (.list ((A.map bp).map pairD)) (.list ((B.map bp).map pairD)) = some (.list ((A.map bp ++ B.map bp).map pairD)) := by
  show (if _ then _ else _) = _
  rw [if_pos (by
    rw [List.length_map, List.length_map, List.length_map, List.length_map]
    exact Nat.le_trans (show _ ≤ 1000 by omega) (by decide)), List.map_append]
theorem s_due_moves {A B : List Tri} (hA : NN A) (hB : NN B) (hl : A.length + B.length < 64) : O2 (C_due_moves [.dc ⟨true, false⟩ (sumD A), .dc ⟨true, false⟩ (sumD B)]) fun ds en => ds = (movesN A B).map (mvD A B) ∧ ∃ s, en = .dc ⟨true, false⟩ (sumD A) :: .dc ⟨true, false⟩ (sumD B) :: s := by
  have hU := pairsU_len (A := A) (B := B)
  refine w_fnL 4 ?_
  try simp only [List.length_cons, List.length_nil, Nat.reduceAdd, Nat.reduceSub, List.replicate_succ, List.replicate_zero, List.cons_append, List.nil_append]
  unfold f__law_due_moves
  refine st_ ?_
  try simp only [List.set_cons_zero, List.set_cons_succ, List.map_cons, List.map_nil, mdSl, putBack, wipeE, permL, List.filterMap_cons, List.filterMap_nil, List.getElem?_cons_zero, List.getElem?_cons_succ]
  rw [keys_sumD, keys_sumD]
  refine O1.of (cat_pairs hl) ?_
  refine ⟨_, rfl, ⟨by simp; omega, nn_all hA hB⟩, ?_⟩
  rw [show setP (A.map bp ++ B.map bp) = pairsU A B from rfl]
  refine O1.of (x := itD _) rfl ?_
  refine w_foldX (e := pairD) (fun (W : List (Int × Int)) (st : List (Int × Int)) en => ∃ s3 : Sl, en = [.dc ⟨true, false⟩ (sumD A), .dc ⟨true, false⟩ (sumD B), .ow (st.map (mvD A B)), s3] ∧ st.length + W.length ≤ 63) (fun st q => if amtI A q ≠ amtI B q then st ++ [q] else st) (pairsU A B) [] _ ⟨_, rfl, by simp; omega⟩ (fun q W st en hI => ?_) fun en hI => ?_
  · obtain ⟨s3, rfl, hst⟩ := hI
    simp only [List.length_cons] at hst
    refine w_turn ?_
    refine st_ ?_
    try simp only [List.set_cons_zero, List.set_cons_succ, List.map_cons, List.map_nil, mdSl, putBack, wipeE, permL, List.filterMap_cons, List.filterMap_nil, List.getElem?_cons_zero, List.getElem?_cons_succ]
    refine ⟨⟨true, false⟩, _, [.inl q.1, .inl q.2], rfl, rfl, ?_⟩
    rw [get_sumD]
    refine st_ ?_
    try simp only [List.set_cons_zero, List.set_cons_succ, List.map_cons, List.map_nil, mdSl, putBack, wipeE, permL, List.filterMap_cons, List.filterMap_nil, List.getElem?_cons_zero, List.getElem?_cons_succ]
    refine ⟨⟨true, false⟩, _, [.inl q.1, .inl q.2], rfl, rfl, ?_⟩
    rw [get_sumD]
    refine st_ ?_
    rw [eqv_int]
    refine ⟨fun c => ?_, fun c => ?_⟩
    · have c : amtI A q ≠ amtI B q := by simpa using c
      rw [if_pos c]
      unfold pairD
      refine st_ ?_
      try simp only [List.set_cons_zero, List.set_cons_succ, List.map_cons, List.map_nil, mdSl, putBack, wipeE, permL, List.filterMap_cons, List.filterMap_nil, List.getElem?_cons_zero, List.getElem?_cons_succ]
      refine ⟨⟨true, false⟩, _, [.inl q.1, .inl q.2], rfl, rfl, ?_⟩
      rw [get_sumD]
      refine st_ ?_
      try simp only [List.set_cons_zero, List.set_cons_succ, List.map_cons, List.map_nil, mdSl, putBack, wipeE, permL, List.filterMap_cons, List.filterMap_nil, List.getElem?_cons_zero, List.getElem?_cons_succ]
      refine ⟨⟨true, false⟩, _, [.inl q.1, .inl q.2], rfl, rfl, ?_⟩
      rw [get_sumD]
      refine st_ ?_
      refine ⟨by rw [List.length_map]; exact Nat.lt_of_lt_of_le (show st.length < 64 by omega) (by decide), ?_⟩
      exact ⟨_, .inl rfl, _, by rw [List.map_append]; rfl, by rw [List.length_append]; simp; omega⟩
    · have c : amtI A q = amtI B q := by simpa using c
      rw [if_neg (by simp [c])]
      refine st_ ?_
      exact ⟨_, .inl rfl, _, rfl, by omega⟩
  · obtain ⟨s3, rfl, hst⟩ := hI
    have hf : ∀ (L st : List (Int × Int)), L.foldl (fun st q => if amtI A q ≠ amtI B q then st ++ [q] else st) st = st ++ L.filter fun q => decide (amtI A q ≠ amtI B q) := fun L => by
      induction L with
      | nil => intro st; simp
      | cons a L ih =>
        intro st
        rw [List.foldl_cons, ih, List.filter_cons]
        by_cases h : amtI A a ≠ amtI B a
        · rw [if_pos h, if_pos (by simpa using h)]
          simp
        · rw [if_neg h, if_neg (by simpa using h)]
    rw [hf, List.nil_append]
    refine st_ ?_
    exact ⟨rfl, _, rfl⟩
theorem s_moved_rows {es fs : List Ent} {dy : Bool} {ch : Ch} (hz : es.length + fs.length < 64) : O2 (C_moved_rows [.va (accD es), .va (accD fs), .va (manD dy ch)]) fun ds en => ds = (movesN (laidT es dy ch) (laidT fs dy ch)).map (mvD (laidT es dy ch) (laidT fs dy ch)) := by
  have hA := rows_few (es := es) (dy := dy) (ch := ch)
  have hB := rows_few (es := fs) (dy := dy) (ch := ch)
  have wA := lay_laid (es := es) (dy := dy) (ch := ch)
  have wB := lay_laid (es := fs) (dy := dy) (ch := ch)
  have s1 := s_laid_by (es := es) (dy := dy) (ch := ch) (by omega)
  have s2 := s_laid_by (es := fs) (dy := dy) (ch := ch) (by omega)
  have nA := nn_laid wA
  have nB := nn_laid wB
  have ndA := wA.nd
  have ndB := wB.nd
  generalize laidT es dy ch = A at hA s1 nA ndA
  generalize laidT fs dy ch = B at hB s2 nB ndB
  have hl : A.length + B.length < 64 := by omega
  have hU := pairsU_len (A := A) (B := B)
  have hs : ∀ n, n ≤ 1000 → n ≤ sizeLine := fun n h => Nat.le_trans h (by decide)
  clear wA wB
  refine w_fnL 11 ?_
  try simp only [List.length_cons, List.length_nil, Nat.reduceAdd, Nat.reduceSub, List.replicate_succ, List.replicate_zero, List.cons_append, List.nil_append]
  unfold f_moved_rows
  refine st_ ?_
  try simp only [List.set_cons_zero, List.set_cons_succ, List.map_cons, List.map_nil, mdSl, putBack, wipeE, permL, List.filterMap_cons, List.filterMap_nil, List.getElem?_cons_zero, List.getElem?_cons_succ]
  refine s1.mono ?_
  rintro _ _ rfl
  refine st_ ?_
  try simp only [List.set_cons_zero, List.set_cons_succ, List.map_cons, List.map_nil, mdSl, putBack, wipeE, permL, List.filterMap_cons, List.filterMap_nil, List.getElem?_cons_zero, List.getElem?_cons_succ]
  refine w_compT (e := triD) (q := fun t => some (kyT t, PyData.int t.2.2)) (hs _ (by omega)) (fun t ht => ?_) ?_
  · unfold triD
    refine st_ ?_
    exact ⟨_, rfl, rfl, by first | rfl | trivial⟩
  rw [sumD_of ndA]
  refine st_ ?_
  try simp only [List.set_cons_zero, List.set_cons_succ, List.map_cons, List.map_nil, mdSl, putBack, wipeE, permL, List.filterMap_cons, List.filterMap_nil, List.getElem?_cons_zero, List.getElem?_cons_succ]
  refine s2.mono ?_
  rintro _ _ rfl
  refine st_ ?_
  try simp only [List.set_cons_zero, List.set_cons_succ, List.map_cons, List.map_nil, mdSl, putBack, wipeE, permL, List.filterMap_cons, List.filterMap_nil, List.getElem?_cons_zero, List.getElem?_cons_succ]
  refine w_compT (e := triD) (q := fun t => some (kyT t, PyData.int t.2.2)) (hs _ (by omega)) (fun t ht => ?_) ?_
  · unfold triD
    refine st_ ?_
    exact ⟨_, rfl, rfl, by first | rfl | trivial⟩
  rw [sumD_of ndB]
  refine st_ ?_
  try simp only [List.set_cons_zero, List.set_cons_succ, List.map_cons, List.map_nil, mdSl, putBack, wipeE, permL, List.filterMap_cons, List.filterMap_nil, List.getElem?_cons_zero, List.getElem?_cons_succ]
  rw [keys_sumD, keys_sumD]
  refine O1.of (cat_pairs hl) ?_
  refine ⟨_, rfl, ⟨by simp; omega, nn_all nA nB⟩, ?_⟩
  rw [show setP (A.map bp ++ B.map bp) = pairsU A B from rfl]
  refine st_ ?_
  try simp only [List.set_cons_zero, List.set_cons_succ, List.map_cons, List.map_nil, mdSl, putBack, wipeE, permL, List.filterMap_cons, List.filterMap_nil, List.getElem?_cons_zero, List.getElem?_cons_succ]
  refine w_compD (e := pairD) (q := fun q => some (mvD A B q)) (hs _ (by omega)) (fun q hq => ?_) ?_
  · unfold pairD
    refine st_ ?_
    try simp only [List.set_cons_zero, List.set_cons_succ, List.map_cons, List.map_nil, mdSl, putBack, wipeE, permL, List.filterMap_cons, List.filterMap_nil, List.getElem?_cons_zero, List.getElem?_cons_succ]
    refine ⟨⟨true, false⟩, _, [.inl q.1, .inl q.2], rfl, rfl, ?_⟩
    rw [get_sumD]
    refine st_ ?_
    try simp only [List.set_cons_zero, List.set_cons_succ, List.map_cons, List.map_nil, mdSl, putBack, wipeE, permL, List.filterMap_cons, List.filterMap_nil, List.getElem?_cons_zero, List.getElem?_cons_succ]
    refine ⟨⟨true, false⟩, _, [.inl q.1, .inl q.2], rfl, rfl, ?_⟩
    rw [get_sumD]
    refine st_ ?_
    exact ⟨rfl, by first | rfl | trivial⟩
  rw [List.filterMap_eq_map']
  refine st_ ?_
  try simp only [List.set_cons_zero, List.set_cons_succ, List.map_cons, List.map_nil, mdSl, putBack, wipeE, permL, List.filterMap_cons, List.filterMap_nil, List.getElem?_cons_zero, List.getElem?_cons_succ]
  refine w_compD (e := mvD A B) (q := fun q => if decide (amtI A q ≠ amtI B q) = true then some (mvD A B q) else none) (hs _ (by omega)) (fun q hq => ?_) ?_
  · unfold mvD
    refine st_ ?_
    rw [eqv_int]
    refine ⟨fun c => ⟨?_, by first | rfl | trivial⟩, fun c => ?_⟩
    · rw [if_neg]
      simpa using c
    · refine st_ ?_
      refine ⟨?_, by first | rfl | trivial⟩
      rw [if_pos]
      simpa using c
  rw [← map_filt]
  rfl
theorem s_moved {es fs : List Ent} {dy : Bool} {ch : Ch} (h1 : AccOk es) (h2 : AccOk fs) (hz : es.length + fs.length < 64) : O2 (C_moved [.va (accD es), .va (accD fs), .va (manD dy ch)]) fun ds en => ds = (movesN (laidT es dy ch) (laidT fs dy ch)).map (mvD (laidT es dy ch) (laidT fs dy ch)) := by
  refine w_fnL 3 ?_
  try simp only [List.length_cons, List.length_nil, Nat.reduceAdd, Nat.reduceSub, List.replicate_succ, List.replicate_zero, List.cons_append, List.nil_append]
  unfold f_moved
  refine st_ ?_
  try simp only [List.set_cons_zero, List.set_cons_succ, List.map_cons, List.map_nil, mdSl, putBack, wipeE, permL, List.filterMap_cons, List.filterMap_nil, List.getElem?_cons_zero, List.getElem?_cons_succ]
  refine (s_check_account h1 (by omega)).mono ?_
  intro _ _ _
  refine st_ ?_
  try simp only [List.set_cons_zero, List.set_cons_succ, List.map_cons, List.map_nil, mdSl, putBack, wipeE, permL, List.filterMap_cons, List.filterMap_nil, List.getElem?_cons_zero, List.getElem?_cons_succ]
  refine (s_check_account h2 (by omega)).mono ?_
  intro _ _ _
  refine st_ ?_
  try simp only [List.set_cons_zero, List.set_cons_succ, List.map_cons, List.map_nil, mdSl, putBack, wipeE, permL, List.filterMap_cons, List.filterMap_nil, List.getElem?_cons_zero, List.getElem?_cons_succ]
  refine (s_check_manner dy ch).mono ?_
  intro _ _ _
  refine st_ ?_
  try simp only [List.set_cons_zero, List.set_cons_succ, List.map_cons, List.map_nil, mdSl, putBack, wipeE, permL, List.filterMap_cons, List.filterMap_nil, List.getElem?_cons_zero, List.getElem?_cons_succ]
  refine (s_moved_rows hz).mono ?_
  rintro _ _ rfl
  rfl
end VL

namespace VL
open PySem PySem.Spec PyProof.Rows L2 G
/-- no named payment -/
def Bare (es : List Ent) : Prop := ∀ e ∈ es, RowOk e
theorem bare_ok {es : List Ent} (h : Bare es) : AccOk es := rows_acc h
theorem bare_none {es : List Ent} (h : Bare es) (k : Nat) : namedOf es k = none := by
  unfold namedOf
  split
  · rename_i d s b e
    exact (h _ (List.mem_of_getElem? e)).elim
  · rfl
end VL

namespace VL
open PySem PySem.Spec PyProof.Rows L2 G
theorem s_bare {n : Nat} {js : List D} {upto : Int} (hj : JB n js) (hn : n ≤ 10000000) (h0 : 0 ≤ upto) (h1 : upto ≤ 1000) :
    O2 (C_bare [.ow js, .va (.int upto)]) fun d en => ∃ (es : List Ent) (js' : List D) (s : En), d = accD es ∧ (es.length : Int) ≤ upto ∧ Bare es ∧ en = .ow js' :: s ∧ JB (n + 5 + 5 * upto.toNat) js' := by
  refine w_fn 2 ?_
  try simp only [List.length_cons, List.length_nil, Nat.reduceAdd, Nat.reduceSub, List.replicate_succ, List.replicate_zero, List.cons_append, List.nil_append]
  unfold f__law_bare
  refine st_ ?_
  refine (s_many hj (by omega) h0 h1).mono ?_
  rintro _ _ ⟨r, js1, s1, rfl, rfl, hJ1, hr0, hr1⟩
  refine st_ ?_
  try simp only [List.set_cons_zero, List.set_cons_succ, List.map_cons, List.map_nil, mdSl, putBack, wipeE, permL, List.filterMap_cons, List.filterMap_nil, List.getElem?_cons_zero, List.getElem?_cons_succ]
  refine (s_slips (ts := [1, 3, 12, 10 ^ 30 - 1]) hJ1 (by omega) hr0 (by omega) (by simp) (by decide) (by decide)).mono ?_
  rintro _ _ ⟨rows, js2, s2, rfl, hl, hrow, rfl, hJ2⟩
  refine st_ ?_
  exact ⟨rows, js2, _, rfl, by omega, hrow, rfl, hJ2.mono (by omega)⟩
end VL

namespace VL
open PySem PySem.Spec PyProof.Rows L2 G
theorem s_named {n : Nat} {js : List D} {rows : List Ent} (hj : JB n js) (hn : n ≤ 100000000) (hl : rows.length ≤ 1000) (hr : ∀ e ∈ rows, RowOk e) :
    O2 (C_named [.ow js, .va (.list (rows.map Ent.D))]) fun d en => ∃ (es : List Ent) (js' : List D) (s : En), d = .tuple (es.map Ent.D) ∧ es.length = rows.length ∧ AccOk es ∧ en = .ow js' :: s ∧ JB (n + 2 * rows.length) js' := by
  refine w_fn 6 ?_
  try simp only [List.length_cons, List.length_nil, Nat.reduceAdd, Nat.reduceSub, List.replicate_succ, List.replicate_zero, List.cons_append, List.nil_append]
  unfold f__law_named
  refine st_ ?_
  refine ⟨by rw [List.length_map]; exact ⟨by omega, by omega⟩, ?_⟩
  try simp only [List.set_cons_zero, List.set_cons_succ, List.map_cons, List.map_nil, mdSl, putBack, wipeE, permL, List.filterMap_cons, List.filterMap_nil, List.getElem?_cons_zero, List.getElem?_cons_succ]
  refine w_forD (fun i en => ∃ (es : List Ent) (js' : List D) (s3 s4 : Sl), en = [.ow js', .va (.list (rows.map Ent.D)), .ow (es.map Ent.D), s3, s4, .un] ∧
    es.length = rows.length ∧ AccOk es ∧ JB (n + 2 * i) js') _ 0 _ ⟨rows, _, _, _, rfl, rfl, fun e he => by
      have := hr e he
      cases e <;> first | exact this | exact this.elim, hj.mono (by omega)⟩ (fun i t en et hI => ?_) fun en hI => ?_
  · obtain ⟨es, js4, s3, s4, rfl, hes, hok, hJ4⟩ := hI
    have ht : t = i ∧ i < rows.length := by
      have e1 := (List.getElem?_eq_some_iff.mp et).1
      have e2 := (List.getElem?_eq_some_iff.mp et).2
      rw [List.length_range] at e1
      rw [List.getElem_range] at e2
      rw [List.length_map] at e1
      omega
    obtain ⟨rfl, ht⟩ := ht
    clear et
    obtain ⟨e, he⟩ : ∃ e, es[t]? = some e := ⟨es[t]'(by omega), List.getElem?_eq_getElem (by omega)⟩
    have hlt : (es.map Ent.D).length = es.length := List.length_map _
    refine w_turn ?_
    refine st_ ?_
    try simp only [List.set_cons_zero, List.set_cons_succ, List.map_cons, List.map_nil, mdSl, putBack, wipeE, permL, List.filterMap_cons, List.filterMap_nil, List.getElem?_cons_zero, List.getElem?_cons_succ]
    rw [Int.zero_add]
    refine x_get rfl (atI_map he) ?_
    refine st_ ?_
    refine O1.of e.ix0 ?_
    refine st_ ?_
    refine w_geq e.word_shaped (by decide +kernel) ?_
    rw [e.eq_pay]
    refine st_ ?_
    refine ⟨fun hp => ?_, fun hp => ?_⟩
    · have hep : ∃ d s, e = .pay d s := by
        cases e <;> first | exact ⟨_, _, rfl⟩ | cases hp
      obtain ⟨d, s, rfl⟩ := hep
      have hds : NumOk d s := hok _ (List.mem_of_getElem? he)
      refine st_ ?_
      refine (s_pick hJ4 (by omega) (by decide) (by decide)).mono ?_
      rintro _ _ ⟨r, js5, s5, rfl, rfl, hJ5, hr0, hr1⟩
      refine st_ ?_
      try simp only [List.set_cons_zero, List.set_cons_succ, List.map_cons, List.map_nil, mdSl, putBack, wipeE, permL, List.filterMap_cons, List.filterMap_nil, List.getElem?_cons_zero, List.getElem?_cons_succ]
      refine ⟨fun _ => ?_, fun _ => ?_⟩
      · refine sti_ ?_
        refine ⟨by rw [List.length_map]; exact ⟨by omega, by omega⟩, ?_⟩
        try simp only [List.set_cons_zero, List.set_cons_succ, List.map_cons, List.map_nil, mdSl, putBack, wipeE, permL, List.filterMap_cons, List.filterMap_nil, List.getElem?_cons_zero, List.getElem?_cons_succ]
        let q : Nat → Option Int := fun a => match es[a]? with
          | some (.bill d' _) => if d' ≤ d then some (a : Int) else none
          | _ => none
        refine w_compD (fun a => (q a).map PyData.int) (by rw [List.length_range, List.length_map]; exact Nat.le_trans (show _ ≤ 1000 by omega) (by decide)) (fun a ha => ?_) ?_
        · have ha : a < es.length := by
            rw [List.mem_range, List.length_map] at ha
            omega
          obtain ⟨x, hx⟩ : ∃ x, es[a]? = some x := ⟨es[a], List.getElem?_eq_getElem ha⟩
          refine st_ ?_
          try simp only [List.set_cons_zero, List.set_cons_succ, List.map_cons, List.map_nil, mdSl, putBack, wipeE, permL, List.filterMap_cons, List.filterMap_nil, List.getElem?_cons_zero, List.getElem?_cons_succ]
          rw [Int.zero_add]
          refine x_get rfl (atI_map hx) ?_
          refine st_ ?_
          refine O1.of x.ix0 ?_
          refine st_ ?_
          refine w_geq x.word_shaped (by decide +kernel) ?_
          rw [x.eq_bill]
          refine st_ ?_
          refine ⟨fun hb => ?_, fun hb => ?_⟩
          · have : ∃ d s, x = .bill d s := by
              cases x <;> first | exact ⟨_, _, rfl⟩ | cases hb
            obtain ⟨d', s', rfl⟩ := this
            refine st_ ?_
            refine x_get rfl (atI_map hx) ?_
            refine st_ ?_
            refine x_get rfl (atI_map he) ?_
            refine st_ ?_
            refine ⟨fun hd => ?_, fun hd => ?_⟩
            · have hd := of_decide_eq_false hd
              refine ⟨?_, rfl⟩
              show Option.map PyData.int (q a) = none
              simp only [q, hx, if_neg hd, Option.map_none]
            · have hd := of_decide_eq_true hd
              refine st_ ?_
              refine ⟨?_, rfl⟩
              show Option.map PyData.int (q a) = _
              simp only [q, hx, if_pos hd, Option.map_some]
          · refine ⟨fun _ => ⟨?_, rfl⟩, fun z => (nomatch z)⟩
            show Option.map PyData.int (q a) = none
            cases x <;> first | (simp only [q, hx, Option.map_none]; done) | cases hb
        rw [← List.map_filterMap]
        generalize hks : List.filterMap q (List.range ((es.map Ent.D).length : Int).toNat) = ks
        have hmem : ∀ k ∈ ks, ∃ (b : Nat) (d' s' : Int), k = (b : Int) ∧ es[b]? = some (.bill d' s') ∧ d' ≤ d := fun k hk => by
          rw [← hks, List.mem_filterMap] at hk
          obtain ⟨b, hb, hq⟩ := hk
          simp only [q] at hq
          split at hq
          · rename_i d' s' e1
            split at hq
            · cases hq
              exact ⟨b, d', s', rfl, e1, by assumption⟩
            · cases hq
          · cases hq
        have hkl : ks.length ≤ 1000 := by
          rw [← hks]
          refine Nat.le_trans (List.length_filterMap_le _ _) ?_
          rw [List.length_range, List.length_map]
          omega
        clear hks
        refine sti_ ?_
        refine w_gne (ints_shaped ks) (by decide +kernel) ?_
        refine st_ ?_
        refine ⟨fun hz => ?_, fun hz => ?_⟩
        · have hk1 : 1 ≤ ks.length := by
            cases ks with
            | nil => simp [PyData.eqv, PyData.eqvAll] at hz
            | cons k r => simp
          refine st_ ?_
          try simp only [List.set_cons_zero, List.set_cons_succ, List.map_cons, List.map_nil, mdSl, putBack, wipeE, permL, List.filterMap_cons, List.filterMap_nil, List.getElem?_cons_zero, List.getElem?_cons_succ]
          refine x_get rfl (atI_map he) ?_
          refine st_ ?_
          refine x_get rfl (atI_map he) ?_
          refine st_ ?_
          try simp only [List.set_cons_zero, List.set_cons_succ, List.map_cons, List.map_nil, mdSl, putBack, wipeE, permL, List.filterMap_cons, List.filterMap_nil, List.getElem?_cons_zero, List.getElem?_cons_succ]
          refine (s_pick (m := ((ks.map PyData.int).length : Int)) hJ5 (by omega) (by rw [List.length_map]; omega) (by rw [List.length_map]; omega)).mono ?_
          rintro _ _ ⟨r, js6, s6, rfl, rfl, hJ6, hr0, hr1⟩
          refine st_ ?_
          try simp only [List.set_cons_zero, List.set_cons_succ, List.map_cons, List.map_nil, mdSl, putBack, wipeE, permL, List.filterMap_cons, List.filterMap_nil, List.getElem?_cons_zero, List.getElem?_cons_succ]
          refine w_ixL hr0 hr1 fun k ek => ?_
          have hk := List.mem_of_getElem? ek
          rw [List.mem_map] at hk
          obtain ⟨k, hk, rfl⟩ := hk
          obtain ⟨b, d', s', rfl, hb, hd⟩ := hmem k hk
          refine st_ ?_
          try simp only [List.set_cons_zero, List.set_cons_succ, List.map_cons, List.map_nil, mdSl, putBack, wipeE, permL, List.filterMap_cons, List.filterMap_nil, List.getElem?_cons_zero, List.getElem?_cons_succ]
          refine x_put rfl (ixN_map (by omega)) ?_
          refine ⟨_, rfl, es.set t (.named d s b), js6, _, _, by (try simp only [List.set_cons_zero, List.set_cons_succ, List.map_cons, List.map_nil, mdSl, putBack, wipeE, permL, List.filterMap_cons, List.filterMap_nil, List.getElem?_cons_zero, List.getElem?_cons_succ]); rw [List.map_set]; rfl, by rw [List.length_set]; exact hes, fun x hx => ?_, hJ6.mono (by omega)⟩
          have hbt : t ≠ b := fun z => by
            subst z
            rw [he] at hb
            cases hb
          rcases List.mem_or_eq_of_mem_set hx with hx | rfl
          · exact (hok x hx).set he
          · exact ⟨hds, d', s', by rw [List.getElem?_set_ne hbt]; exact hb, hd⟩
        · refine st_ ?_
          exact ⟨_, rfl, es, js5, _, _, rfl, hes, hok, hJ5.mono (by omega)⟩
      · refine st_ ?_
        exact ⟨_, rfl, es, js5, _, _, rfl, hes, hok, hJ5.mono (by omega)⟩
    · refine st_ ?_
      refine ⟨fun z => (nomatch z), fun _ => ?_⟩
      refine st_ ?_
      exact ⟨_, rfl, es, js4, _, _, rfl, hes, hok, hJ4.mono (by omega)⟩
  · obtain ⟨es, js4, s3, s4, rfl, hes, hok, hJ4⟩ := hI
    refine st_ ?_
    exact ⟨es, js4, _, rfl, hes, hok, rfl, hJ4.mono (by simp only [List.length_range, List.length_map]; omega)⟩
end VL

namespace VL
open PySem PySem.Spec PyProof.Rows L2 G
theorem s_drawn {n : Nat} {js : List D} {upto : Int} (hj : JB n js) (hn : n ≤ 10000000) (h0 : 0 ≤ upto) (h1 : upto ≤ 1000) :
    O2 (C_drawn [.ow js, .va (.int upto)]) fun d en => ∃ (es : List Ent) (js' : List D) (s : En), d = .tuple (es.map Ent.D) ∧ (es.length : Int) ≤ upto ∧ AccOk es ∧ en = .ow js' :: s ∧ JB (n + 5 + 7 * upto.toNat) js' := by
  refine w_fn 2 ?_
  try simp only [List.length_cons, List.length_nil, Nat.reduceAdd, Nat.reduceSub, List.replicate_succ, List.replicate_zero, List.cons_append, List.nil_append]
  unfold f__law_drawn
  refine st_ ?_
  refine (s_many hj (by omega) h0 h1).mono ?_
  rintro _ _ ⟨r, js1, s1, rfl, rfl, hJ1, hr0, hr1⟩
  refine st_ ?_
  try simp only [List.set_cons_zero, List.set_cons_succ, List.map_cons, List.map_nil, mdSl, putBack, wipeE, permL, List.filterMap_cons, List.filterMap_nil, List.getElem?_cons_zero, List.getElem?_cons_succ]
  refine (s_slips (ts := [1, 3, 12, 10 ^ 30 - 1]) hJ1 (by omega) hr0 (by omega) (by simp) (by decide) (by decide)).mono ?_
  rintro _ _ ⟨rows, js2, s2, rfl, hl, hrow, rfl, hJ2⟩
  refine st_ ?_
  try simp only [List.set_cons_zero, List.set_cons_succ, List.map_cons, List.map_nil, mdSl, putBack, wipeE, permL, List.filterMap_cons, List.filterMap_nil, List.getElem?_cons_zero, List.getElem?_cons_succ]
  refine (s_named hJ2 (by omega) (by omega) hrow).mono ?_
  rintro _ _ ⟨es, js3, s3, rfl, hes, hok, rfl, hJ3⟩
  exact ⟨es, js3, _, rfl, by omega, hok, rfl, hJ3.mono (by omega)⟩
end VL

namespace VL
open PySem PySem.Spec PyProof.Rows L2 G
/-! ### places in lists -/
theorem find_nat {k : Nat} : ∀ {B : List Nat}, k ∈ B → (cI B).findIdx? (fun m => decide (m = (k : Int))) = some (B.idxOf k)
  | [], h => nomatch h
  | b :: B, h => by
    show ((b : Int) :: cI B).findIdx? _ = _
    rw [List.findIdx?_cons, List.idxOf_cons]
    by_cases e : b = k
    · subst e
      simp
    · have h1 : ¬ (b : Int) = (k : Int) := by omega
      have hk : k ∈ B := (List.mem_cons.mp h).resolve_left fun z => e z.symm
      have h2 : (b == k) = false := by simpa using e
      rw [find_nat hk, h2]
      simp [h1]
theorem find_int {k : Int} : ∀ {B : List Int}, k ∈ B → B.findIdx? (fun m => decide (m = k)) = some (B.idxOf k)
  | [], h => nomatch h
  | b :: B, h => by
    rw [List.findIdx?_cons, List.idxOf_cons]
    by_cases e : b = k
    · subst e
      simp
    · have hk : k ∈ B := (List.mem_cons.mp h).resolve_left fun z => e z.symm
      have h2 : (b == k) = false := by simpa using e
      rw [find_int hk, h2]
      simp [e]
theorem cut_take {xs : List D} {n : Nat} (h : n ≤ xs.length) : cutD xs none (some (n : Int)) = xs.take n := by
  unfold cutD
  rw [HT.sIx_nat, HT.sIx_none, Nat.min_eq_left h]
  simp
theorem cut_drop {xs : List D} {n : Nat} (h : n ≤ xs.length) : cutD xs (some (n : Int)) none = xs.drop n := by
  unfold cutD
  rw [HT.sIx_nat, HT.sIx_none, Nat.min_eq_left h, List.take_of_length_le]
  simp
end VL

namespace VL
open PySem PySem.Spec PyProof.Rows L2 G
/-! ### an account beside another -/
theorem ent_app {A B : List Ent} {e : Ent} (h : EntOk A e) : EntOk (A ++ B) e := by
  cases e with
  | named d s b =>
    obtain ⟨h1, d', s', h2, h3⟩ := h
    refine ⟨h1, d', s', ?_, h3⟩
    rw [List.getElem?_append_left (List.getElem?_eq_some_iff.mp h2).1]
    exact h2
  | _ => exact h
theorem bare_app {A B : List Ent} (hA : AccOk A) (hB : Bare B) : AccOk (A ++ B) := fun e he => by
  rcases List.mem_append.mp he with h | h
  · exact ent_app (hA e h)
  · have h1 := bare_ok hB e h
    cases e with
    | named d s b => exact (hB _ h).elim
    | _ => exact h1
theorem set_okG {es : List Ent} {k : Nat} {x : Ent} (h : AccOk es) (hn : ∀ d s b, Ent.named d s b ∈ es → b ≠ k) (hx : EntOk (es.set k x) x) : AccOk (es.set k x) := fun e he => by
  rcases List.mem_or_eq_of_mem_set he with he | rfl
  · have h1 := h e he
    cases e with
    | named d s b =>
      obtain ⟨h2, d', s', h3, h4⟩ := h1
      exact ⟨h2, d', s', by rw [List.getElem?_set_ne (hn d s b he).symm]; exact h3, h4⟩
    | _ => exact h1
  · exact hx
def reS (v : Int) : Ent → Ent
  | .bill d s => .bill d v
  | .pay d s => .pay d v
  | .named d s b => .named d v b
  | .struck => .struck
theorem re_ok {es : List Ent} {k : Nat} {x : Ent} {v : Int} (h : AccOk es) (hn : ∀ d s b, Ent.named d s b ∈ es → b ≠ k) (hk : es[k]? = some x) (hv : 1 ≤ v) : AccOk (es.set k (reS v x)) := by
  refine set_okG h hn ?_
  have h1 := h x (List.mem_of_getElem? hk)
  cases x with
  | bill d s => exact ⟨trivial, trivial, hv, trivial⟩
  | pay d s => exact ⟨trivial, trivial, hv, trivial⟩
  | struck => exact trivial
  | named d s b =>
    obtain ⟨_, d', s', h3, h4⟩ := h1
    exact ⟨⟨trivial, trivial, hv, trivial⟩, d', s', by rw [List.getElem?_set_ne (hn d s b (List.mem_of_getElem? hk)).symm]; exact h3, h4⟩
def nmI (es : List Ent) : List Int := es.filterMap fun e => match e with
  | .named _ _ b => some (b : Int)
  | _ => none
theorem nmI_mem {es : List Ent} {d s : Int} {b : Nat} (h : Ent.named d s b ∈ es) : (b : Int) ∈ nmI es := List.mem_filterMap.mpr ⟨_, h, rfl⟩
def sptN (es : List Ent) : List Nat := (List.range es.length).filter fun k => match es[k]? with
  | some e => !decide ((k : Int) ∈ nmI es) && !e.isStruck
  | none => false
theorem sptN_mem {es : List Ent} {k : Nat} (h : k ∈ sptN es) : (∃ e, es[k]? = some e ∧ e.isStruck = false) ∧ ∀ d s b, Ent.named d s b ∈ es → b ≠ k := by
  obtain ⟨h1, h2⟩ := List.mem_filter.mp h
  rw [List.mem_range] at h1
  have he : es[k]? = some es[k] := List.getElem?_eq_getElem h1
  rw [he] at h2
  rw [Bool.and_eq_true] at h2
  refine ⟨⟨_, he, by simpa using h2.2⟩, fun d s b hm z => ?_⟩
  subst z
  have := nmI_mem hm
  simp [this] at h2
theorem gInL_k {neg : Bool} {n : Int} {ns : List Int} : gInL neg (.int n) (.list (ns.map .int)) = some (.bool (if neg = true then !decide (n ∈ ns) else decide (n ∈ ns))) := by
  have h := gIn_ints n ns
  unfold gInL at h ⊢
  dsimp only at h ⊢
  split at h
  · rename_i hs
    rw [if_pos hs]
    simp only [Bool.false_eq_true, if_false, Option.some.injEq, PyData.bool.injEq] at h
    rw [h]
  · cases h
theorem cat_ents {A B : List D} (h : A.length + B.length ≤ 2000) : gAdd (.tuple A) (.tuple B) = some (.tuple (A ++ B)) := if_pos (Nat.le_trans h (by decide))
theorem s_beside {n : Nat} {js : List D} {es : List Ent} (hj : JB n js) (hn : n ≤ 50000) (h : AccOk es) (hz : es.length ≤ 20) : O2 (C_beside [.ow js, .va (accD es)]) fun r en => ∃ (B : List Ent) (js' : List D) (s : En), r = accD B ∧ AccOk B ∧ B.length ≤ 25 ∧ en = .ow js' :: s ∧ JB (n + 200) js' := by
  have hl : (es.map Ent.D).length = es.length := List.length_map _
  refine w_fn 8 ?_
  try simp only [List.length_cons, List.length_nil, Nat.reduceAdd, Nat.reduceSub, List.replicate_succ, List.replicate_zero, List.cons_append, List.nil_append]
  unfold f__law_beside
  refine st_ ?_
  try simp only [List.set_cons_zero, List.set_cons_succ, List.map_cons, List.map_nil, mdSl, putBack, wipeE, permL, List.filterMap_cons, List.filterMap_nil, List.getElem?_cons_zero, List.getElem?_cons_succ]
  refine (s_pick hj (by omega) (by decide) (by decide)).mono ?_
  rintro _ _ ⟨r0, js0, x0, rfl, rfl, hJ0, a0, a1⟩
  refine st_ ?_
  try simp only [List.set_cons_zero, List.set_cons_succ, List.map_cons, List.map_nil, mdSl, putBack, wipeE, permL, List.filterMap_cons, List.filterMap_nil, List.getElem?_cons_zero, List.getElem?_cons_succ]
  unfold accD
  refine st_ ?_
  try simp only [List.set_cons_zero, List.set_cons_succ, List.map_cons, List.map_nil, mdSl, putBack, wipeE, permL, List.filterMap_cons, List.filterMap_nil, List.getElem?_cons_zero, List.getElem?_cons_succ]
  refine w_compD (e := Ent.D) (q := fun e => match e with | .named _ _ b => some (.int (b : Int)) | _ => none) (Nat.le_trans (show _ ≤ 1000 by omega) (by decide)) (fun e he => ?_) ?_
  · refine st_ ?_
    try simp only [List.set_cons_zero, List.set_cons_succ, List.map_cons, List.map_nil, mdSl, putBack, wipeE, permL, List.filterMap_cons, List.filterMap_nil, List.getElem?_cons_zero, List.getElem?_cons_succ]
    refine O1.of e.ix0 ?_
    refine st_ ?_
    refine w_geq e.word_shaped (by decide +kernel) ?_
    rw [e.eq_named]
    cases e with
    | named d s b =>
      refine st_ ?_
      refine ⟨fun z => (nomatch z), fun _ => ?_⟩
      refine st_ ?_
      exact ⟨by first | rfl | trivial, by first | rfl | trivial⟩
    | bill d s =>
      refine st_ ?_
      exact ⟨fun _ => ⟨rfl, by first | rfl | trivial⟩, fun z => (nomatch z)⟩
    | pay d s =>
      refine st_ ?_
      exact ⟨fun _ => ⟨rfl, by first | rfl | trivial⟩, fun z => (nomatch z)⟩
    | struck =>
      refine st_ ?_
      exact ⟨fun _ => ⟨rfl, by first | rfl | trivial⟩, fun z => (nomatch z)⟩
  rw [show (es.filterMap fun e => match e with | .named _ _ b => some (PyData.int (b : Int)) | _ => none) = (nmI es).map .int by
    unfold nmI
    rw [List.map_filterMap]
    refine fm_congr fun e _ => ?_
    cases e <;> rfl]
  refine st_ ?_
  try simp only [List.set_cons_zero, List.set_cons_succ, List.map_cons, List.map_nil, mdSl, putBack, wipeE, permL, List.filterMap_cons, List.filterMap_nil, List.getElem?_cons_zero, List.getElem?_cons_succ]
  refine st_ ?_
  try simp only [List.set_cons_zero, List.set_cons_succ, List.map_cons, List.map_nil, mdSl, putBack, wipeE, permL, List.filterMap_cons, List.filterMap_nil, List.getElem?_cons_zero, List.getElem?_cons_succ]
  refine ⟨by rw [hl]; exact ⟨by omega, by omega⟩, ?_⟩
  try simp only [List.set_cons_zero, List.set_cons_succ, List.map_cons, List.map_nil, mdSl, putBack, wipeE, permL, List.filterMap_cons, List.filterMap_nil, List.getElem?_cons_zero, List.getElem?_cons_succ]
  refine w_compD (q := fun k => match es[k]? with | some e => if (!decide ((k : Int) ∈ nmI es) && !e.isStruck) = true then some (.int (k : Int)) else none | none => none) (by rw [List.length_range, hl]; exact Nat.le_trans (show _ ≤ 1000 by omega) (by decide)) (fun k hk => ?_) ?_
  · have hk : k < es.length := by
      rw [List.mem_range, hl] at hk
      omega
    have he : es[k]? = some es[k] := List.getElem?_eq_getElem hk
    generalize es[k] = e at he
    refine st_ ?_
    rw [Int.zero_add]
    refine O1.of gInL_k ?_
    rw [if_pos rfl, he]
    cases hm : decide ((k : Int) ∈ nmI es) with
    | true =>
      refine st_ ?_
      exact ⟨rfl, by first | rfl | trivial⟩
    | false =>
      refine st_ ?_
      refine O1.of (atI_map he) ?_
      refine st_ ?_
      refine O1.of e.ix0 ?_
      refine st_ ?_
      refine w_gne e.word_shaped (by decide +kernel) ?_
      rw [e.eq_struck]
      refine st_ ?_
      refine ⟨fun c => ⟨if_neg (by rw [c]; decide), by first | rfl | trivial⟩, fun c => ?_⟩
      refine st_ ?_
      exact ⟨if_pos (by rw [c]; rfl), by first | rfl | trivial⟩
  have hc : (List.range es.length).filterMap (fun k => match es[k]? with | some e => if (!decide ((k : Int) ∈ nmI es) && !e.isStruck) = true then some (PyData.int (k : Int)) else none | none => none) = nD (sptN es) := by
    unfold sptN nD cI
    rw [List.map_map, map_filt]
    refine fm_congr fun k hk => ?_
    rw [List.mem_range] at hk
    have he : es[k]? = some es[k] := List.getElem?_eq_getElem hk
    rw [he]
    rfl
  rw [show ((es.map Ent.D).length : Int).toNat = es.length by simp, hc]
  have hSl : (sptN es).length ≤ es.length := Nat.le_trans (List.length_filter_le _ _) (by rw [List.length_range]; exact Nat.le_refl _)
  have hSm : ∀ k ∈ sptN es, (∃ e, es[k]? = some e ∧ e.isStruck = false) ∧ ∀ d s b, Ent.named d s b ∈ es → b ≠ k := fun k hk => sptN_mem hk
  generalize sptN es = S at hSl hSm
  generalize nmI es = NI
  clear hc
  refine st_ ?_
  refine ⟨fun _ => ?_, fun _ => ?_⟩
  · refine st_ ?_
    try simp only [List.set_cons_zero, List.set_cons_succ, List.map_cons, List.map_nil, mdSl, putBack, wipeE, permL, List.filterMap_cons, List.filterMap_nil, List.getElem?_cons_zero, List.getElem?_cons_succ]
    refine (s_drawn (upto := 20) hJ0 (by omega) (by decide) (by decide)).mono ?_
    rintro _ _ ⟨B, js1, x1, rfl, hel, hok, rfl, hJ1⟩
    refine st_ ?_
    exact ⟨B, js1, _, rfl, hok, by omega, rfl, hJ1.mono (by omega)⟩
  refine st_ ?_
  refine ⟨fun _ => ?_, fun _ => ?_⟩
  · refine st_ ?_
    try simp only [List.set_cons_zero, List.set_cons_succ, List.map_cons, List.map_nil, mdSl, putBack, wipeE, permL, List.filterMap_cons, List.filterMap_nil, List.getElem?_cons_zero, List.getElem?_cons_succ]
    refine (s_bare (upto := 5) hJ0 (by omega) (by decide) (by decide)).mono ?_
    rintro _ _ ⟨B, js1, x1, rfl, hel, hok, rfl, hJ1⟩
    unfold accD
    refine st_ ?_
    refine O1.of (cat_ents (by rw [hl, List.length_map]; omega)) ?_
    refine st_ ?_
    exact ⟨es ++ B, js1, _, by rw [← List.map_append], bare_app h hok, by rw [List.length_append]; omega, rfl, hJ1.mono (by omega)⟩
  refine st_ ?_
  refine w_geq (ints_shaped (cI S)) (by decide +kernel) ?_
  cases S with
  | nil =>
    rw [show PyData.eqv (.list ((cI []).map PyData.int)) (.list []) = true by simp [PyData.eqv, PyData.eqvAll]]
    refine st_ ?_
    exact ⟨es, js0, _, rfl, h, by omega, rfl, hJ0.mono (by omega)⟩
  | cons k0 L =>
    rw [show PyData.eqv (.list ((cI (k0 :: L)).map PyData.int)) (.list []) = false by simp [PyData.eqv, PyData.eqvAll]]
    refine st_ ?_
    refine ⟨fun _ => ?_, fun _ => ?_⟩
    · refine st_ ?_
      exact ⟨es, js0, _, rfl, h, by omega, rfl, hJ0.mono (by omega)⟩
    have hm : ((nD (k0 :: L)).length : Int) = (L.length : Int) + 1 := by simp
    simp only [List.length_cons] at hSl
    refine st_ ?_
    try simp only [List.set_cons_zero, List.set_cons_succ, List.map_cons, List.map_nil, mdSl, putBack, wipeE, permL, List.filterMap_cons, List.filterMap_nil, List.getElem?_cons_zero, List.getElem?_cons_succ]
    rw [hm]
    refine (s_pick hJ0 (by omega) (by omega) (by omega)).mono ?_
    rintro _ _ ⟨r, js1, x1, rfl, rfl, hJ1, b0, b1⟩
    refine st_ ?_
    try simp only [List.set_cons_zero, List.set_cons_succ, List.map_cons, List.map_nil, mdSl, putBack, wipeE, permL, List.filterMap_cons, List.filterMap_nil, List.getElem?_cons_zero, List.getElem?_cons_succ]
    refine w_ixL b0 (by rw [hm]; exact b1) fun d e1 => ?_
    obtain ⟨i, hi, rfl⟩ := List.mem_map.mp (List.mem_of_getElem? e1)
    obtain ⟨k, hk, rfl⟩ := List.mem_map.mp hi
    clear e1 b1 b0 hm hi
    obtain ⟨⟨e, he, hes⟩, hnn⟩ := hSm k hk
    have hkl := (List.getElem?_eq_some_iff.mp he).1
    have hsl1 : sliceD (.tuple (es.map Ent.D)) none (some (k : Int)) = some (.tuple ((es.take k).map Ent.D)) := by
      show (if (cutD (es.map Ent.D) none (some (k : Int))).length < (es.map Ent.D).length then some (PyData.tuple (cutD (es.map Ent.D) none (some (k : Int)))) else none) = _
      rw [cut_take (by rw [hl]; omega), if_pos (by rw [List.length_take, hl]; omega), List.map_take]
    have hsl2 : sliceD (.tuple (es.map Ent.D)) (some ((k : Int) + 1)) none = some (.tuple ((es.drop (k + 1)).map Ent.D)) := by
      rw [show (k : Int) + 1 = ((k + 1 : Nat) : Int) by omega]
      show (if (cutD (es.map Ent.D) (some ((k + 1 : Nat) : Int)) none).length < (es.map Ent.D).length then some (PyData.tuple (cutD (es.map Ent.D) (some ((k + 1 : Nat) : Int)) none)) else none) = _
      rw [cut_drop (by rw [hl]; omega), if_pos (by rw [List.length_drop, hl]; omega), List.map_drop]
    have hset : ∀ x : Ent, PyData.tuple ((es.take k).map Ent.D ++ [x.D] ++ (es.drop (k + 1)).map Ent.D) = accD (es.set k x) := fun x => by
      unfold accD
      rw [List.set_eq_take_append_cons_drop, if_pos hkl, List.map_append, List.map_cons]
      simp
    have put : ∀ x : Ent, O1 (gAdd (.tuple ((es.take k).map Ent.D)) (.tuple [x.D])) fun z => z = .tuple ((es.take k).map Ent.D ++ [x.D]) := fun x => ⟨_, cat_ents (by
      rw [List.length_map, List.length_take]
      simp only [List.length_cons, List.length_nil]
      omega), rfl⟩
    have put2 : ∀ x : Ent, gAdd (.tuple ((es.take k).map Ent.D ++ [x.D])) (.tuple ((es.drop (k + 1)).map Ent.D)) = some (accD (es.set k x)) := fun x => by
      rw [← hset x]
      exact cat_ents (by
        rw [List.length_append, List.length_map, List.length_take, List.length_map, List.length_drop]
        simp only [List.length_cons, List.length_nil]
        omega)
    refine st_ ?_
    refine ⟨fun _ => ?_, fun _ => ?_⟩
    · refine st_ ?_
      refine O1.of hsl1 ?_
      refine st_ ?_
      obtain ⟨z, e1, rfl⟩ := put .struck
      refine O1.of e1 ?_
      refine st_ ?_
      refine O1.of hsl2 ?_
      refine st_ ?_
      refine O1.of (put2 .struck) ?_
      refine st_ ?_
      exact ⟨es.set k .struck, js1, _, rfl, set_okG h hnn trivial, by rw [List.length_set]; omega, rfl, hJ1.mono (by omega)⟩
    · refine st_ ?_
      refine O1.of (atI_map he) ?_
      refine st_ ?_
      refine O1.of e.ix0 ?_
      refine st_ ?_
      refine O1.of (e.ix1 hes) ?_
      refine st_ ?_
      try simp only [List.set_cons_zero, List.set_cons_succ, List.map_cons, List.map_nil, mdSl, putBack, wipeE, permL, List.filterMap_cons, List.filterMap_nil, List.getElem?_cons_zero, List.getElem?_cons_succ]
      refine (s_pick hJ1 (by omega) (by decide) (by decide)).mono ?_
      rintro _ _ ⟨v, js2, x2, rfl, rfl, hJ2, c0, c1⟩
      obtain ⟨ys, hys, hcat⟩ : ∃ xs, e.D = .tuple xs ∧ gAdd (.tuple [.str e.word, .int e.day, .int (1 + v)]) (.tuple (cutD xs (some 3) none)) = some (reS (1 + v) e).D := by
        cases e with
        | bill d s => exact ⟨_, rfl, cat_ents (A := [.str (Ent.bill d s).word, .int d, .int (1 + v)]) (B := []) (show 3 + 0 ≤ 2000 by decide)⟩
        | pay d s => exact ⟨_, rfl, cat_ents (A := [.str (Ent.pay d s).word, .int d, .int (1 + v)]) (B := []) (show 3 + 0 ≤ 2000 by decide)⟩
        | named d s b => exact ⟨_, rfl, cat_ents (A := [.str (Ent.named d s b).word, .int d, .int (1 + v)]) (B := [.int (b : Int)]) (show 3 + 1 ≤ 2000 by decide)⟩
        | struck => cases hes
      refine st_ ?_
      try simp only [List.set_cons_zero, List.set_cons_succ, List.map_cons, List.map_nil, mdSl, putBack, wipeE, permL, List.filterMap_cons, List.filterMap_nil, List.getElem?_cons_zero, List.getElem?_cons_succ]
      refine ⟨ys, hys, ?_⟩
      refine O1.of hcat ?_
      refine st_ ?_
      try simp only [List.set_cons_zero, List.set_cons_succ, List.map_cons, List.map_nil, mdSl, putBack, wipeE, permL, List.filterMap_cons, List.filterMap_nil, List.getElem?_cons_zero, List.getElem?_cons_succ]
      refine st_ ?_
      refine O1.of hsl1 ?_
      refine st_ ?_
      obtain ⟨z, e1, rfl⟩ := put (reS (1 + v) e)
      refine O1.of e1 ?_
      refine st_ ?_
      refine O1.of hsl2 ?_
      refine st_ ?_
      refine O1.of (put2 (reS (1 + v) e)) ?_
      refine st_ ?_
      exact ⟨es.set k (reS (1 + v) e), js2, _, rfl, re_ok h hnn he (by omega), by rw [List.length_set]; omega, rfl, hJ2.mono (by omega)⟩
end VL

namespace VL
open PySem PySem.Spec PyProof.Rows L2 G
/-! ### the law's own rule -/
def spotsN (es : List Ent) : List Nat := (List.range es.length).filter fun k => match es[k]? with
  | some e => !e.isStruck
  | none => false
theorem dayOf_D {es : List Ent} {k : Nat} {e : Ent} (h : es[k]? = some e) (hs : e.isStruck = false) : dayOf (es.map Ent.D) (k : Int) = some e.day := by
  unfold dayOf
  rw [if_pos (by omega), Int.toNat_natCast, List.getElem?_map, h]
  cases e <;> first | rfl | cases hs
theorem pairs_spots (es : List Ent) : pairs es = (cI (spotsN es)).map fun a => ((dayOf (es.map Ent.D) a).getD 0, a) := by
  unfold pairs spotsN cI
  rw [List.map_map, map_filt]
  refine fm_congr fun k hk => ?_
  rw [List.mem_range] at hk
  have he : es[k]? = some es[k] := List.getElem?_eq_getElem hk
  unfold dayIx
  rw [he]
  cases hs : es[k].isStruck with
  | true => simp [hs]
  | false =>
    simp [hs, dayOf_D he hs]
theorem sort_line (es : List Ent) : sortDay (fun n => (dayOf (es.map Ent.D) n).getD 0) (cI (spotsN es)) = lineL es := by
  unfold lineL sortDay
  rw [pairs_spots]
  generalize cI (spotsN es) = L
  have h : sortP (L.map fun a => ((dayOf (es.map Ent.D) a).getD 0, a)) = (L.mergeSort fun a b => decide ((dayOf (es.map Ent.D) a).getD 0 < (dayOf (es.map Ent.D) b).getD 0 ∨ ((dayOf (es.map Ent.D) a).getD 0 = (dayOf (es.map Ent.D) b).getD 0 ∧ a ≤ b))).map fun a => ((dayOf (es.map Ent.D) a).getD 0, a) := by
    unfold sortP
    refine (List.map_mergeSort fun a _ b _ => ?_).symm
    unfold leP
    dsimp only
    by_cases h1 : (dayOf (es.map Ent.D) a).getD 0 < (dayOf (es.map Ent.D) b).getD 0 <;> by_cases h2 : (dayOf (es.map Ent.D) a).getD 0 = (dayOf (es.map Ent.D) b).getD 0 <;> by_cases h3 : a ≤ b <;> simp [h1, h2, h3]
  rw [h, List.map_map]
  conv => lhs; rw [← List.map_id (List.mergeSort L _)]
  rfl
theorem s_law_along {es : List Ent} (hl : es.length ≤ 1000) : O2 (C__law_along [.va (accD es)]) fun ds en => ds = (lineL es).map .int := by
  refine w_fnL 3 ?_
  try simp only [List.length_cons, List.length_nil, Nat.reduceAdd, Nat.reduceSub, List.replicate_succ, List.replicate_zero, List.cons_append, List.nil_append]
  unfold f__law_along accD
  refine st_ ?_
  refine ⟨by rw [List.length_map]; exact ⟨by omega, by omega⟩, ?_⟩
  try simp only [List.set_cons_zero, List.set_cons_succ, List.map_cons, List.map_nil, mdSl, putBack, wipeE, permL, List.filterMap_cons, List.filterMap_nil, List.getElem?_cons_zero, List.getElem?_cons_succ]
  refine w_compD (q := fun k => match es[k]? with | some e => if e.isStruck = true then none else some (.int (k : Int)) | none => none) (by rw [List.length_range, List.length_map]; exact Nat.le_trans (show _ ≤ 1000 by omega) (by decide)) (fun k hk => ?_) ?_
  · have hk : k < es.length := by
      rw [List.mem_range, List.length_map] at hk
      omega
    have he : es[k]? = some es[k] := List.getElem?_eq_getElem hk
    generalize es[k] = e at he
    refine st_ ?_
    rw [Int.zero_add]
    refine O1.of (atI_map he) ?_
    refine st_ ?_
    refine O1.of e.ix0 ?_
    refine st_ ?_
    refine w_gne e.word_shaped (by decide +kernel) ?_
    rw [e.eq_struck]
    refine st_ ?_
    rw [he]
    refine ⟨fun hs => ?_, fun hs => ?_⟩
    · have hs : e.isStruck = true := by simpa using hs
      exact ⟨if_pos hs, by first | rfl | trivial⟩
    · have hs : e.isStruck = false := by simpa using hs
      refine st_ ?_
      exact ⟨if_neg (by rw [hs]; decide), by first | rfl | trivial⟩
  have hc : (List.range es.length).filterMap (fun k => match es[k]? with | some e => if e.isStruck = true then none else some (PyData.int (k : Int)) | none => none) = nD (spotsN es) := by
    unfold spotsN nD cI
    rw [List.map_map, map_filt]
    refine fm_congr fun k hk => ?_
    rw [List.mem_range] at hk
    have he : es[k]? = some es[k] := List.getElem?_eq_getElem hk
    rw [he]
    cases hs : es[k].isStruck <;> simp [hs]
  rw [show ((es.map Ent.D).length : Int).toNat = es.length by simp]
  rw [hc]
  refine st_ ?_
  try simp only [List.set_cons_zero, List.set_cons_succ, List.map_cons, List.map_nil, mdSl, putBack, wipeE, permL, List.filterMap_cons, List.filterMap_nil, List.getElem?_cons_zero, List.getElem?_cons_succ]
  refine ⟨cI (spotsN es), es.map Ent.D, rfl, rfl, fun n hn => ?_, ?_⟩
  · obtain ⟨k, hk, rfl⟩ := List.mem_map.mp hn
    unfold spotsN at hk
    rw [List.mem_filter] at hk
    obtain ⟨h1, h2⟩ := hk
    rw [List.mem_range] at h1
    have he : es[k]? = some es[k] := List.getElem?_eq_getElem h1
    rw [he] at h2
    rw [dayOf_D he (by simpa using h2)]
    rfl
  · rw [sort_line]
    rfl
end VL

namespace VL
open PySem PySem.Spec PyProof.Rows L2 G
theorem gEq_nil (ns : List Int) {QU : D → Prop} (q : QU (.bool (decide (ns = [])))) : O1 (gEq (.list (ns.map .int)) (.list [])) QU := by
  refine w_geq (ints_shaped _) (by decide +kernel) ?_
  show QU (.bool (PyData.eqvAll _ (([] : List Int).map .int)))
  rw [eqv_ints]
  exact q
theorem gMaxL_ints (ns : List Int) : gMaxL [.list (ns.map .int)] = (greatI ns).map .int := by
  unfold gMaxL
  simp only [intsOf_map]
theorem gMinL_ints (ns : List Int) : gMinL [.list (ns.map .int)] = (leastI ns).map .int := by
  unfold gMinL
  simp only [intsOf_map]
abbrev dL (ls : List Int) (met : List Nat) : DKV := dN (fun k => .int (lvN ls k)) met
def mateV : Option Nat → Int
  | some k => (k : Int)
  | none => -1
theorem get_dL (ls : List Int) (met : List Nat) (k : Nat) : (valD (dL ls met) [.inl (k : Int)]).getD (.int 0) = .int (getN met ls k) := by
  rw [val_dN]
  unfold getN
  split <;> rfl
theorem eqv_bool (a b : Bool) : PyData.eqv (.bool a) (.bool b) = (a == b) := by cases a <;> cases b <;> rfl
theorem last_at (M : List Nat) (x : Nat) (h : M.getLast? = some x) : L2.atI (nD M) (-1) = some (.int (x : Int)) := by
  have hl : 0 < M.length := by
    cases M with
    | nil => cases h
    | cons a M => simp
  unfold L2.atI L2.ixN
  rw [if_neg (by decide), if_pos (by simp only [List.length_map]; omega)]
  show (nD M)[(((-1 : Int) + (nD M).length)).toNat]? = _
  rw [show ((-1 : Int) + ((nD M).length : Int)).toNat = M.length - 1 by simp only [List.length_map]; omega]
  rw [List.getLast?_eq_getElem?] at h
  simp [h]
theorem head_at (M : List Nat) (x : Nat) (h : M.head? = some x) : L2.atI (nD M) 0 = some (.int (x : Int)) := by
  cases M with
  | nil => cases h
  | cons a M =>
    cases h
    unfold L2.atI L2.ixN
    rw [if_pos (by decide), if_pos (by simp only [List.length_map, List.length_cons]; omega)]
    rfl
theorem pick_some {ch : Ch} {ls : List Int} {M : List Nat} (h : M ≠ []) : ∃ x, pickN ch ls M = some x := by
  obtain ⟨a, M, rfl⟩ : ∃ a M', M = a :: M' := by
    cases M with
    | nil => exact absurd rfl h
    | cons a M => exact ⟨a, M, rfl⟩
  have some_of : ∀ (c : Nat → Bool) (x : Nat), x ∈ a :: M → c x = true → ∃ y, ((a :: M).filter c).head? = some y := fun c x hx hc => by
    have : x ∈ (a :: M).filter c := List.mem_filter.mpr ⟨hx, hc⟩
    cases e : (a :: M).filter c with
    | nil => rw [e] at this; cases this
    | cons y r => exact ⟨y, rfl⟩
  cases ch with
  | oldest => exact ⟨a, rfl⟩
  | newest => exact ⟨_, List.getLast?_eq_some_getLast h⟩
  | greatest =>
    obtain ⟨h1, h2, h3⟩ := foldl_max_ge (M.map (lvN ls)) (lvN ls a)
    rcases h3 with h3 | h3
    · exact some_of _ a (by simp) (decide_eq_true (show some _ = some _ by rw [h3]))
    · obtain ⟨x, hx, e⟩ := List.mem_map.mp h3
      exact some_of _ x (by simp [hx]) (decide_eq_true (show some _ = some _ by rw [e]))
  | least =>
    obtain ⟨h1, h2, h3⟩ := foldl_min_le (M.map (lvN ls)) (lvN ls a)
    rcases h3 with h3 | h3
    · exact some_of _ a (by simp) (decide_eq_true (show some _ = some _ by rw [h3]))
    · obtain ⟨x, hx, e⟩ := List.mem_map.mp h3
      exact some_of _ x (by simp [hx]) (decide_eq_true (show some _ = some _ by rw [e]))
theorem s_mate {es : List Ent} {L met : List Nat} {ls : List Int} {i : Nat} {ch : Ch} {e : Ent} (he : es[i]? = some e) (hL : ∀ k ∈ L, k < es.length) (hLl : L.length ≤ 1000) :
    O2 (C_mate [.va (accD es), .va (.list (nD L)), .dc ⟨false, false⟩ (dL ls met), .va (.int i), .va (chD ch)]) fun r en => r = .int (mateV (mateN es L met ls i ch)) ∧ ∃ s0 s1 s, en = s0 :: s1 :: .dc ⟨false, false⟩ (dL ls met) :: s := by
  have hs : ∀ n, n ≤ 1000 → n ≤ sizeLine := fun n h => Nat.le_trans h (by decide)
  have item : ∀ (a : Int), a ∈ cI L → ∃ (k : Nat) (x : Ent), a = (k : Int) ∧ k ∈ L ∧ es[k]? = some x ∧ entB es k = x.isBill := fun a ha => by
    obtain ⟨k, hk, rfl⟩ := List.mem_map.mp ha
    exact ⟨k, es[k]'(hL k hk), rfl, hk, List.getElem?_eq_getElem _, entB_at (List.getElem?_eq_getElem _)⟩
  have hei := entB_at he
  refine w_fn 9 ?_
  try simp only [List.length_cons, List.length_nil, Nat.reduceAdd, Nat.reduceSub, List.replicate_succ, List.replicate_zero, List.cons_append, List.nil_append]
  unfold f__law_mate accD
  refine st_ ?_
  refine O1.of (atI_map he) ?_
  refine thenQ_nx ?_
  try simp only [List.set_cons_zero, List.set_cons_succ, List.map_cons, List.map_nil, mdSl, putBack, wipeE, permL, List.filterMap_cons, List.filterMap_nil, List.getElem?_cons_zero, List.getElem?_cons_succ]
  refine w_seq ?_
  -- the named bill first
  refine O1.mono (Q := fun o => (∃ b, namedOf es i = some b ∧ 0 < getN met ls b ∧ ∃ s0 s1 s, o = .rt (.int (b : Int)) (s0 :: s1 :: .dc ⟨false, false⟩ (dL ls met) :: s)) ∨ ((∀ b, namedOf es i = some b → ¬ 0 < getN met ls b) ∧ o = .nx [Sl.va (PyData.tuple (List.map Ent.D es)), .va (.list (nD L)), .dc ⟨false, false⟩ (dL ls met), .va (.int i), .va (chD ch), .va e.D, .un, .un, .un])) ?_ ?_
  · refine w_if ?_
    refine w_and ?_
    refine st_ ?_
    refine O1.of e.ix0 ?_
    refine st_ ?_
    refine w_geq e.word_shaped (by decide +kernel) ?_
    rw [e.eq_named]
    refine st_ ?_
    cases e with
    | named d s b =>
      have hn : namedOf es i = some b := by simp [namedOf, he]
      refine ⟨fun _ => ?_, (fun z => nomatch z)⟩
      simp only [Ent.D]
      refine st_ ?_
      refine ⟨⟨false, false⟩, _, [.inl (b : Int)], rfl, rfl, ?_⟩
      rw [get_dL]
      refine st_ ?_
      refine ⟨fun h => ?_, fun h => ?_⟩
      · refine st_ ?_
        exact .inl ⟨b, hn, of_decide_eq_true h, _, _, _, rfl⟩
      · refine st_ ?_
        refine .inr ⟨fun b' hb' => ?_, rfl⟩
        rw [hn] at hb'
        cases hb'
        exact of_decide_eq_false h
    | bill d s =>
      refine ⟨(fun z => nomatch z), fun _ => ⟨(fun z => nomatch z), fun _ => ?_⟩⟩
      refine st_ ?_
      exact .inr ⟨fun b hb => by simp [namedOf, he] at hb, rfl⟩
    | pay d s =>
      refine ⟨(fun z => nomatch z), fun _ => ⟨(fun z => nomatch z), fun _ => ?_⟩⟩
      refine st_ ?_
      exact .inr ⟨fun b hb => by simp [namedOf, he] at hb, rfl⟩
    | struck =>
      refine ⟨(fun z => nomatch z), fun _ => ⟨(fun z => nomatch z), fun _ => ?_⟩⟩
      refine st_ ?_
      exact .inr ⟨fun b hb => by simp [namedOf, he] at hb, rfl⟩
  rintro o (⟨b, hn, hb, s0, s1, s, rfl⟩ | ⟨hn, rfl⟩)
  · refine thenQ_rt ?_
    refine ⟨?_, _, _, _, rfl⟩
    unfold mateN
    rw [hn]
    simp only [hb, if_true]
    rfl
  have hrest : mateN es L met ls i ch = restN es L met ls i ch := by
    unfold mateN
    cases e2 : namedOf es i with
    | none => rfl
    | some b => simp only [hn b e2, if_false]
  rw [hrest]
  refine st_ ?_
  refine w_compD (q := fun a => if decide (0 < getN met ls a.toNat) && (entB es a.toNat != entB es i) then some (.int a) else none) (hs _ (by rw [List.length_map]; exact hLl)) (fun a ha => ?_) ?_
  · obtain ⟨k, x, rfl, hk, hx, hbx⟩ := item a ha
    refine st_ ?_
    refine ⟨⟨false, false⟩, _, [.inl (k : Int)], rfl, rfl, ?_⟩
    rw [get_dL]
    refine st_ ?_
    rw [Int.toNat_natCast]
    refine ⟨fun h1 => ?_, fun h1 => ?_⟩
    · refine st_ ?_
      refine O1.of (atI_map hx) ?_
      refine st_ ?_
      refine O1.of x.ix0 ?_
      refine st_ ?_
      refine w_geq x.word_shaped (by decide +kernel) ?_
      rw [x.eq_bill]
      refine st_ ?_
      refine O1.of e.ix0 ?_
      refine st_ ?_
      refine w_geq e.word_shaped (by decide +kernel) ?_
      rw [e.eq_bill]
      refine st_ ?_
      rw [eqv_bool, hbx, hei]
      refine ⟨fun h => ⟨?_, by first | rfl | trivial⟩, fun h => ?_⟩
      · rw [if_neg]
        simpa using fun _ => h
      · refine st_ ?_
        refine ⟨?_, by first | rfl | trivial⟩
        rw [if_pos]
        rw [h1]
        simpa using h
    · refine ⟨fun _ => ⟨?_, by first | rfl | trivial⟩, (fun z => nomatch z)⟩
      rw [if_neg]
      rw [h1]
      simp
  rw [filt_cI (c := fun k => decide (0 < getN met ls k) && (entB es k != entB es i)) (fun k hk => by rw [Int.toNat_natCast]), show L.filter (fun k => decide (0 < getN met ls k) && (entB es k != entB es i)) = matesN es L met ls i from rfl]
  have hmem : ∀ k ∈ matesN es L met ls i, k ∈ met := fun k hk => by
    have := (List.mem_filter.mp hk).2
    rw [Bool.and_eq_true] at this
    have h1 := of_decide_eq_true this.1
    unfold getN at h1
    split at h1
    · assumption
    · exact absurd h1 (by decide)
  have hMl : (matesN es L met ls i).length ≤ 1000 := Nat.le_trans (List.length_filter_le _ _) hLl
  have hR : restN es L met ls i ch = if entB es i = true then (matesN es L met ls i).head? else pickN ch ls (matesN es L met ls i) := rfl
  generalize matesN es L met ls i = M at hmem hMl hR
  refine st_ ?_
  refine gEq_nil _ ?_
  refine st_ ?_
  refine ⟨fun hM => ?_, fun hM => ?_⟩
  · have hM : M = [] := by
      have := of_decide_eq_true hM
      simpa using this
    subst hM
    refine st_ ?_
    refine ⟨?_, _, _, _, rfl⟩
    rw [hR]
    cases ch <;> (split <;> rfl)
  have hM : M ≠ [] := by
    have := of_decide_eq_false hM
    simpa using this
  have hMle : (cI M).length ≤ sizeLine := hs _ (by rw [List.length_map]; exact hMl)
  have vals : ∀ (vs : List Nat) (te : FE) (en0 : En) (QL : List D → En → Prop), en0 = [Sl.va (PyData.tuple (List.map Ent.D es)), .va (.list (nD L)), .dc ⟨false, false⟩ (dL ls met), .va (.int i), .va (chD ch), .va e.D, .va (.list (nD M)), en0.getD 7 .un, .un] → QL ((M.map (lvN ls)).map .int) en0 →
      O2 (compD (gNm 8) tYesV (eGetD 2 (eVar [2] 8)) [8] (nD M) en0 []) QL := fun vs te en0 QL e0 q => by
    refine w_compD (q := fun a => some (.int (lvN ls a.toNat))) hMle (fun a ha => ?_) ?_
    · obtain ⟨k, hk, rfl⟩ := List.mem_map.mp ha
      rw [e0]
      refine st_ ?_
      refine ⟨⟨false, false⟩, _, [.inl (k : Int)], .int (lvN ls k), rfl, rfl, by rw [val_dN, if_pos (hmem k hk)], ?_⟩
      rw [Int.toNat_natCast]
      exact ⟨rfl, by first | rfl | trivial⟩
    rw [List.filterMap_eq_map', show (cI M).map (fun a => PyData.int (lvN ls a.toNat)) = (M.map (lvN ls)).map PyData.int by
      rw [List.map_map, List.map_map]
      refine List.map_congr_left fun k _ => ?_
      show PyData.int (lvN ls (k : Int).toNat) = _
      rw [Int.toNat_natCast]
      rfl]
    exact q
  try simp only [List.set_cons_zero, List.set_cons_succ, List.map_cons, List.map_nil, mdSl, putBack, wipeE, permL, List.filterMap_cons, List.filterMap_nil, List.getElem?_cons_zero, List.getElem?_cons_succ]
  refine st_ ?_
  refine O1.of e.ix0 ?_
  refine st_ ?_
  refine w_geq e.word_shaped (by decide +kernel) ?_
  rw [e.eq_bill]
  refine st_ ?_
  by_cases hb : e.isBill = true
  · rw [hei, if_pos hb] at hR
    refine ⟨fun _ => ?_, fun z => absurd hb (by rw [z]; decide)⟩
    refine st_ ?_
    obtain ⟨x, hx⟩ : ∃ x, M.head? = some x := pick_some (ch := .oldest) (ls := ls) hM
    refine O1.of (head_at M x hx) ?_
    refine ⟨?_, _, _, _, rfl⟩
    rw [hR, hx]
    rfl
  have hbf : e.isBill = false := by simpa using hb
  rw [hei, if_neg hb] at hR
  obtain ⟨x, hx⟩ := pick_some (ch := ch) (ls := ls) hM
  rw [hR, hx]
  refine ⟨fun z => absurd z hb, fun _ => ?_⟩
  cases ch with
  | oldest =>
    refine st_ ?_
    refine O1.of (head_at M x hx) ?_
    exact ⟨rfl, _, _, _, rfl⟩
  | newest =>
    refine st_ ?_
    refine O1.of (last_at M x hx) ?_
    exact ⟨rfl, _, _, _, rfl⟩
  | greatest =>
    obtain ⟨w, hw⟩ : ∃ w, greatI (M.map (lvN ls)) = some w := by
      cases M with
      | nil => exact absurd rfl hM
      | cons a M => exact ⟨_, rfl⟩
    refine st_ ?_
    refine vals [] (eVar [] 0) _ _ rfl ?_
    refine st_ ?_
    refine O1.of (a := .int w) (by rw [gMaxL_ints, hw]; rfl) ?_
    refine st_ ?_
    try simp only [List.set_cons_zero, List.set_cons_succ, List.map_cons, List.map_nil, mdSl, putBack, wipeE, permL, List.filterMap_cons, List.filterMap_nil, List.getElem?_cons_zero, List.getElem?_cons_succ]
    refine st_ ?_
    refine w_compD (q := fun a => if decide (some (lvN ls a.toNat) = maxN ls M) = true then some (.int a) else none) hMle (fun a ha => ?_) ?_
    · obtain ⟨k, hk, rfl⟩ := List.mem_map.mp ha
      refine st_ ?_
      refine ⟨⟨false, false⟩, _, [.inl (k : Int)], .int (lvN ls k), rfl, rfl, by rw [val_dN, if_pos (hmem k hk)], ?_⟩
      refine st_ ?_
      rw [eqv_int, Int.toNat_natCast, show maxN ls M = some w from hw]
      refine ⟨fun h => ⟨?_, by first | rfl | trivial⟩, fun h => ?_⟩
      · rw [if_neg]
        have := of_decide_eq_false h
        simpa using this
      · refine st_ ?_
        refine ⟨?_, by first | rfl | trivial⟩
        rw [if_pos]
        have := of_decide_eq_true h
        simpa using this
    rw [filt_cI (c := fun k => decide (some (lvN ls k) = maxN ls M)) (fun k hk => by rw [Int.toNat_natCast])]
    refine st_ ?_
    refine O1.of (head_at _ x hx) ?_
    exact ⟨rfl, _, _, _, rfl⟩
  | least =>
    obtain ⟨w0, hw0⟩ : ∃ w, greatI (M.map (lvN ls)) = some w := by
      cases M with
      | nil => exact absurd rfl hM
      | cons a M => exact ⟨_, rfl⟩
    obtain ⟨w, hw⟩ : ∃ w, leastI (M.map (lvN ls)) = some w := by
      cases M with
      | nil => exact absurd rfl hM
      | cons a M => exact ⟨_, rfl⟩
    refine st_ ?_
    refine vals [] (eVar [] 0) _ _ rfl ?_
    refine st_ ?_
    refine O1.of (a := .int w0) (by rw [gMaxL_ints, hw0]; rfl) ?_
    refine st_ ?_
    try simp only [List.set_cons_zero, List.set_cons_succ, List.map_cons, List.map_nil, mdSl, putBack, wipeE, permL, List.filterMap_cons, List.filterMap_nil, List.getElem?_cons_zero, List.getElem?_cons_succ]
    refine st_ ?_
    refine vals [] (eVar [] 0) _ _ rfl ?_
    refine st_ ?_
    refine O1.of (a := .int w) (by rw [gMinL_ints, hw]; rfl) ?_
    refine st_ ?_
    try simp only [List.set_cons_zero, List.set_cons_succ, List.map_cons, List.map_nil, mdSl, putBack, wipeE, permL, List.filterMap_cons, List.filterMap_nil, List.getElem?_cons_zero, List.getElem?_cons_succ]
    refine st_ ?_
    refine w_compD (q := fun a => if decide (some (lvN ls a.toNat) = minN ls M) = true then some (.int a) else none) hMle (fun a ha => ?_) ?_
    · obtain ⟨k, hk, rfl⟩ := List.mem_map.mp ha
      refine st_ ?_
      refine ⟨⟨false, false⟩, _, [.inl (k : Int)], .int (lvN ls k), rfl, rfl, by rw [val_dN, if_pos (hmem k hk)], ?_⟩
      refine st_ ?_
      rw [eqv_int, Int.toNat_natCast, show minN ls M = some w from hw]
      refine ⟨fun h => ⟨?_, by first | rfl | trivial⟩, fun h => ?_⟩
      · rw [if_neg]
        have := of_decide_eq_false h
        simpa using this
      · refine st_ ?_
        refine ⟨?_, by first | rfl | trivial⟩
        rw [if_pos]
        have := of_decide_eq_true h
        simpa using this
    rw [filt_cI (c := fun k => decide (some (lvN ls k) = minN ls M)) (fun k hk => by rw [Int.toNat_natCast])]
    refine st_ ?_
    refine O1.of (head_at _ x hx) ?_
    exact ⟨rfl, _, _, _, rfl⟩
end VL

namespace VL
open PySem PySem.Spec PyProof.Rows L2 G
/-- the slots of the law's laying, in the midst of i's turns -/
def layEn (es : List Ent) (dy : Bool) (ch : Ch) (ls : List Int) (rows : List Tri) (met : List Nat) (i : Nat) (s7 s8 s9 : Sl) : En :=
  [.va (.tuple (es.map Ent.D)), .va (.tuple [.str (sqS dy), chD ch]), .va (.list (nD (lineN es))), .va (.list (nD (walkN es dy))), .dc ⟨false, false⟩ (dL ls met), .ow (rows.map triD), .va (.int (i : Int)), s7, s8, s9]
def layBody : D → En → Option Out := turnD (gNm 7) (sSeq (sSet 8 (eCallF [2] 5 C_mate (mCons (eVar [] 0) (mCons (eVar [] 2) (mOwn 4 (mCons (eVar [] 6) (mCons (eOp gIx (eVar [] 1) (eC (.int 1))) mNil)))))))
    (sSeq (sIf (fOr (fBool (eOp gEq (eGetD 4 (eVar [] 6)) (eC (.int 0)))) (fBool (eOp gLt (eVar [] 8) (eC (.int 0))))) sBrk sNil)
    (sSeq (sSet 9 (eCall gMin2 (aCons (eGetD 4 (eVar [] 6)) (aCons (eGetD 4 (eVar [] 8)) aNil))))
    (sSeq (sPutD 4 (eOp gSub (eGetD 4 (eVar [] 6)) (eVar [] 9)) (eVar [] 6))
    (sSeq (sPutD 4 (eOp gSub (eGetD 4 (eVar [] 8)) (eVar [] 9)) (eVar [] 8))
    (sIf (fBool (eOp gEq (eOp gIx (eOp gIx (eVar [] 0) (eVar [] 6)) (eC (.int 0))) (eC (.str (Str.ofString "bill"))))) (sApp 5 (eTup (aCons (eVar [] 6) (aCons (eVar [] 8) (aCons (eVar [] 9) aNil))))) (sApp 5 (eTup (aCons (eVar [] 8) (aCons (eVar [] 6) (aCons (eVar [] 9) aNil)))))))))))
theorem dL_set {ls : List Int} {met : List Nat} {k : Nat} {v : Int} (h : k ∈ met) (hl : k < ls.length) : putD (dL ls met) [.inl (k : Int)] (.int v) = dL (ls.set k v) met := by
  unfold dL
  rw [put_old h]
  refine dN_congr fun j _ => ?_
  rw [lvN_set _ _ _ _ hl]
  by_cases e : j = k <;> simp [e]
theorem val_dL {ls : List Int} {met : List Nat} {k : Nat} (h : k ∈ met) : valD (dL ls met) [.inl (k : Int)] = some (.int (lvN ls k)) := by
  unfold dL
  rw [val_dN, if_pos h]
theorem w_brk {en : En} {QO : Out → Prop} (q : QO (.bk en)) : O1 (sBrk en) QO := ⟨_, rfl, q⟩
theorem thenQ_bk {s : FS} {QO : Out → Prop} {en : En} (h : QO (.bk en)) : thenQ s QO (.bk en) := h
theorem s_turns {es : List Ent} {dy : Bool} {ch : Ch} {met : List Nat} {l0 : List Int} {i : Nat} {e : Ent} (he : es[i]? = some e) (hz : es.length ≤ 1000) (him : i ∉ met) (hm : ∀ k ∈ met, k < es.length) (hml : met.length ≤ 1000)
    (hnb : ∀ b, namedOf es i = some b → entB es b = true ∧ b ∈ lineN es) (h0 : ∀ k ∈ partN es ch l0 i (othersN (lineN es) met l0), 0 < lvN l0 k) :
    ∀ (ts : List Nat) (R : List Nat) (s : List Int × List Tri) (s7 s8 s9 : Sl), s.1.length = es.length → s.2.length + R.length ≤ 1000000 → R.length ≤ ts.length → (∀ o ∈ R, o < es.length ∧ o ≠ i ∧ o ∈ met) → (∀ k, 0 ≤ lvN s.1 k) →
      (lvN s.1 i = 0 ∨ Turn es (lineN es) met l0 s.1 i (partN es ch l0 i (othersN (lineN es) met l0)) R) →
      O1 (forD layBody (ts.map fun k : Nat => PyData.int (0 + (k : Int))) (layEn es dy ch s.1 s.2 (met ++ [i]) i s7 s8 s9)) fun o => ∃ t7 t8 t9, o = .nx (layEn es dy ch (R.foldl (pairN es i) s).1 (R.foldl (pairN es i) s).2 (met ++ [i]) i t7 t8 t9)
  | [], R, s, s7, s8, s9, hl, hr, hf, hR, hn, hT => by
    have : R = [] := List.length_eq_zero_iff.mp (by simpa using hf)
    subst this
    exact ⟨_, rfl, _, _, _, rfl⟩
  | t :: ts, R, s, s7, s8, s9, hl, hr, hf, hR, hn, hT => by
    have hei := entB_at he
    have hie := (List.getElem?_eq_some_iff.mp he).1
    have hli : i < s.1.length := by rw [hl]; exact hie
    have him2 : i ∈ met ++ [i] := by simp
    have hni : namedOf es i ≠ none → entB es i = false := fun h => by
      cases e with
      | named d s b => rw [hei]; rfl
      | bill d s => exact absurd (by simp [namedOf, he]) h
      | pay d s => exact absurd (by simp [namedOf, he]) h
      | struck => exact absurd (by simp [namedOf, he]) h
    have ndO : (othersN (lineN es) met l0).Nodup := (lineN_nodup es).filter _
    have ndS : (partN es ch l0 i (othersN (lineN es) met l0)).Nodup := (part_perm es ch l0 i ndO).nodup_iff.mpr (ndO.filter _)
    have hiS : i ∉ partN es ch l0 i (othersN (lineN es) met l0) := fun z => (part_sub ndO z).2 rfl
    show O1 (forD layBody (PyData.int (0 + (t : Int)) :: ts.map fun k : Nat => PyData.int (0 + (k : Int))) _) _
    have brk : ∀ s8', R.foldl (pairN es i) s = s → layBody (PyData.int (0 + (t : Int))) (layEn es dy ch s.1 s.2 (met ++ [i]) i s7 s8 s9) = some (.bk (layEn es dy ch s.1 s.2 (met ++ [i]) i (.va (.int (0 + (t : Int)))) s8' s9)) →
        O1 (forD layBody (PyData.int (0 + (t : Int)) :: ts.map fun k : Nat => PyData.int (0 + (k : Int))) (layEn es dy ch s.1 s.2 (met ++ [i]) i s7 s8 s9)) fun o => ∃ t7 t8 t9, o = .nx (layEn es dy ch (R.foldl (pairN es i) s).1 (R.foldl (pairN es i) s).2 (met ++ [i]) i t7 t8 t9) := fun s8' e1 e2 => by
      unfold forD
      rw [e2, e1]
      exact ⟨_, rfl, _, _, _, rfl⟩
    by_cases hz0 : lvN s.1 i = 0
    · have hd := fold_done es i R s hz0
      obtain ⟨o, h1, s8', rfl⟩ : O1 (layBody (PyData.int (0 + (t : Int))) (layEn es dy ch s.1 s.2 (met ++ [i]) i s7 s8 s9)) fun o => ∃ s8', o = .bk (layEn es dy ch s.1 s.2 (met ++ [i]) i (.va (.int (0 + (t : Int)))) s8' s9) := by
        unfold layBody layEn
        refine w_turn ?_
        refine st_ ?_
        try simp only [List.set_cons_zero, List.set_cons_succ, List.map_cons, List.map_nil, mdSl, putBack, wipeE, permL, List.filterMap_cons, List.filterMap_nil, List.getElem?_cons_zero, List.getElem?_cons_succ]
        refine (s_mate he (fun k hk => lineN_lt hk) (Nat.le_trans (lineN_len es) hz)).mono ?_
        rintro _ _ ⟨rfl, s0, s1, s2, rfl⟩
        refine st_ ?_
        try simp only [List.set_cons_zero, List.set_cons_succ, List.map_cons, List.map_nil, mdSl, putBack, wipeE, permL, List.filterMap_cons, List.filterMap_nil, List.getElem?_cons_zero, List.getElem?_cons_succ]
        refine ⟨⟨false, false⟩, _, [.inl (i : Int)], _, rfl, rfl, val_dL him2, ?_⟩
        refine st_ ?_
        rw [eqv_int, hz0]
        refine ⟨fun _ => ⟨fun _ => ?_, (fun z => nomatch z)⟩, fun z => absurd z (by decide)⟩
        refine w_brk (thenQ_bk ?_)
        exact ⟨_, rfl⟩
      exact brk s8' hd h1
    · have hTurn := hT.resolve_left hz0
      have hpi : 0 < lvN s.1 i := by
        have := hn i
        omega
      have hmate := mate_head (lineN_nodup es) him hnb hni hTurn
      cases R with
      | nil =>
        obtain ⟨o, h1, s8', rfl⟩ : O1 (layBody (PyData.int (0 + (t : Int))) (layEn es dy ch s.1 s.2 (met ++ [i]) i s7 s8 s9)) fun o => ∃ s8', o = .bk (layEn es dy ch s.1 s.2 (met ++ [i]) i (.va (.int (0 + (t : Int)))) s8' s9) := by
          unfold layBody layEn
          refine w_turn ?_
          refine st_ ?_
          try simp only [List.set_cons_zero, List.set_cons_succ, List.map_cons, List.map_nil, mdSl, putBack, wipeE, permL, List.filterMap_cons, List.filterMap_nil, List.getElem?_cons_zero, List.getElem?_cons_succ]
          refine (s_mate he (fun k hk => lineN_lt hk) (Nat.le_trans (lineN_len es) hz)).mono ?_
          rintro _ _ ⟨rfl, s0, s1, s2, rfl⟩
          rw [hmate]
          refine st_ ?_
          try simp only [List.set_cons_zero, List.set_cons_succ, List.map_cons, List.map_nil, mdSl, putBack, wipeE, permL, List.filterMap_cons, List.filterMap_nil, List.getElem?_cons_zero, List.getElem?_cons_succ]
          refine ⟨⟨false, false⟩, _, [.inl (i : Int)], _, rfl, rfl, val_dL him2, ?_⟩
          refine st_ ?_
          rw [eqv_int]
          refine ⟨fun h => absurd (of_decide_eq_true h) hz0, fun _ => ?_⟩
          refine st_ ?_
          refine w_brk (thenQ_bk ?_)
          exact ⟨_, rfl⟩
        exact brk s8' rfl h1
      | cons o R =>
        obtain ⟨ho, hoi, hom⟩ := hR o (by simp)
        have hlo : o < s.1.length := by rw [hl]; exact ho
        have hom2 : o ∈ met ++ [i] := List.mem_append_left _ hom
        have hoS : o ∈ partN es ch l0 i (othersN (lineN es) met l0) := by
          obtain ⟨T, hT⟩ := hTurn.suf
          rw [hT]
          exact List.mem_append_right _ (by simp)
        have hpo : 0 < lvN s.1 o := by
          rw [hTurn.same o (by simp)]
          exact h0 o hoS
        have hm2 := minV_le (lvN s.1 i) (lvN s.1 o)
        have hpos : 0 < minV (lvN s.1 i) (lvN s.1 o) := by
          rcases hm2.2.2 with z | z <;> rw [z] <;> assumption
        have hp : pairN es i s o = ((s.1.set i (lvN s.1 i - minV (lvN s.1 i) (lvN s.1 o))).set o (lvN s.1 o - minV (lvN s.1 i) (lvN s.1 o)), s.2 ++ [rowN es i o (minV (lvN s.1 i) (lvN s.1 o))]) := if_pos hpos
        obtain ⟨x, h1, t8, t9, rfl⟩ : O1 (layBody (PyData.int (0 + (t : Int))) (layEn es dy ch s.1 s.2 (met ++ [i]) i s7 s8 s9)) fun x => ∃ t8 t9, x = .nx (layEn es dy ch (pairN es i s o).1 (pairN es i s o).2 (met ++ [i]) i (.va (.int (0 + (t : Int)))) t8 t9) := by
          rw [hp]
          unfold layBody layEn
          refine w_turn ?_
          refine st_ ?_
          try simp only [List.set_cons_zero, List.set_cons_succ, List.map_cons, List.map_nil, mdSl, putBack, wipeE, permL, List.filterMap_cons, List.filterMap_nil, List.getElem?_cons_zero, List.getElem?_cons_succ]
          refine (s_mate he (fun k hk => lineN_lt hk) (Nat.le_trans (lineN_len es) hz)).mono ?_
          rintro _ _ ⟨rfl, s0, s1, s2, rfl⟩
          rw [hmate]
          simp only [List.head?_cons, mateV]
          refine st_ ?_
          try simp only [List.set_cons_zero, List.set_cons_succ, List.map_cons, List.map_nil, mdSl, putBack, wipeE, permL, List.filterMap_cons, List.filterMap_nil, List.getElem?_cons_zero, List.getElem?_cons_succ]
          refine ⟨⟨false, false⟩, _, [.inl (i : Int)], _, rfl, rfl, val_dL him2, ?_⟩
          refine st_ ?_
          rw [eqv_int]
          refine ⟨fun h => absurd (of_decide_eq_true h) hz0, fun _ => ?_⟩
          refine st_ ?_
          refine ⟨fun h => absurd (of_decide_eq_true h) (by omega), fun _ => ?_⟩
          refine st_ ?_
          refine ⟨⟨false, false⟩, _, [.inl (i : Int)], _, rfl, rfl, val_dL him2, ?_⟩
          refine st_ ?_
          refine ⟨⟨false, false⟩, _, [.inl (o : Int)], _, rfl, rfl, val_dL hom2, ?_⟩
          refine st_ ?_
          try simp only [List.set_cons_zero, List.set_cons_succ, List.map_cons, List.map_nil, mdSl, putBack, wipeE, permL, List.filterMap_cons, List.filterMap_nil, List.getElem?_cons_zero, List.getElem?_cons_succ]
          rw [show (if lvN s.1 o < lvN s.1 i then lvN s.1 o else lvN s.1 i) = minV (lvN s.1 i) (lvN s.1 o) from rfl]
          generalize minV (lvN s.1 i) (lvN s.1 o) = m
          have hcap : ∀ l : List Int, (dL l (met ++ [i])).length < sizeLine := fun l => by
            rw [dN_len, List.length_append]
            exact Nat.lt_of_lt_of_le (show _ < 1002 by simp only [List.length_cons, List.length_nil]; omega) (by decide)
          refine st_ ?_
          refine ⟨⟨false, false⟩, _, [.inl (i : Int)], _, rfl, rfl, val_dL him2, ?_⟩
          refine st_ ?_
          refine ⟨false, _, [.inl (i : Int)], rfl, rfl, hcap _, ?_⟩
          rw [dL_set him2 hli]
          try simp only [List.set_cons_zero, List.set_cons_succ, List.map_cons, List.map_nil, mdSl, putBack, wipeE, permL, List.filterMap_cons, List.filterMap_nil, List.getElem?_cons_zero, List.getElem?_cons_succ]
          have hlo3 : o < (s.1.set i (lvN s.1 i - m)).length := by rw [List.length_set]; exact hlo
          refine st_ ?_
          refine ⟨⟨false, false⟩, _, [.inl (o : Int)], _, rfl, rfl, val_dL hom2, ?_⟩
          rw [lvN_set _ _ _ _ hli, if_neg hoi]
          refine st_ ?_
          refine ⟨false, _, [.inl (o : Int)], rfl, rfl, hcap _, ?_⟩
          rw [dL_set hom2 hlo3]
          try simp only [List.set_cons_zero, List.set_cons_succ, List.map_cons, List.map_nil, mdSl, putBack, wipeE, permL, List.filterMap_cons, List.filterMap_nil, List.getElem?_cons_zero, List.getElem?_cons_succ]
          refine st_ ?_
          refine O1.of (atI_map he) ?_
          refine st_ ?_
          refine O1.of e.ix0 ?_
          refine st_ ?_
          refine w_geq e.word_shaped (by decide +kernel) ?_
          rw [e.eq_bill]
          refine st_ ?_
          have hrc : (s.2.map triD).length < sizeLine := by
            rw [List.length_map]
            simp only [List.length_cons] at hr
            exact rows_cap (by omega)
          refine ⟨fun hb => ?_, fun hb => ?_⟩
          · refine st_ ?_
            refine ⟨hrc, ?_⟩
            refine ⟨.va (.int (o : Int)), .va (.int m), ?_⟩
            rw [show rowN es i o m = ((i : Int), (o : Int), m) from if_pos (by rw [hei]; exact hb), List.map_append]
            rfl
          · refine st_ ?_
            refine ⟨hrc, ?_⟩
            refine ⟨.va (.int (o : Int)), .va (.int m), ?_⟩
            rw [show rowN es i o m = ((o : Int), (i : Int), m) from if_neg (by rw [hei, hb]; decide), List.map_append]
            rfl
        have hn2 : ∀ k, 0 ≤ lvN (pairN es i s o).1 k := fun k => by
          rw [pairN_lv hli hlo hoi, if_pos hpos]
          have h1 := hn k
          split
          · omega
          · split <;> omega
        have ih := s_turns (dy := dy) he hz him hm hml hnb h0 ts R (pairN es i s o) (.va (.int (0 + (t : Int)))) t8 t9 (by rw [pairN_len]; exact hl) (by
            rw [hp]
            simp only [List.length_append, List.length_cons, List.length_nil] at hr ⊢
            omega) (by
            simp only [List.length_cons] at hf
            omega) (fun x hx => hR x (List.mem_cons_of_mem _ hx)) hn2 (turn_next hli hlo hoi ndS hiS hTurn hpi hpo)
        unfold forD
        rw [h1]
        exact ih
end VL

namespace VL
open PySem PySem.Spec PyProof.Rows L2 G
theorem s_law_lay {es : List Ent} {dy : Bool} {ch : Ch} (h : AccOk es) (hz : es.length ≤ 1000) : O2 (C_lay [.va (accD es), .va (manD dy ch)]) fun ds en => ds = (sortT (goneN es dy ch).rows).map triD := by
  refine w_fnL 10 ?_
  try simp only [List.length_cons, List.length_nil, Nat.reduceAdd, Nat.reduceSub, List.replicate_succ, List.replicate_zero, List.cons_append, List.nil_append]
  unfold f__law_lay manD
  refine st_ ?_
  try simp only [List.set_cons_zero, List.set_cons_succ, List.map_cons, List.map_nil, mdSl, putBack, wipeE, permL, List.filterMap_cons, List.filterMap_nil, List.getElem?_cons_zero, List.getElem?_cons_succ]
  refine (s_law_along hz).mono ?_
  rintro _ _ rfl
  refine thenQ_nx ?_
  try simp only [List.set_cons_zero, List.set_cons_succ, List.map_cons, List.map_nil, mdSl, putBack, wipeE, permL, List.filterMap_cons, List.filterMap_nil, List.getElem?_cons_zero, List.getElem?_cons_succ]
  refine w_seq ?_
  refine w_set ?_
  refine w_new ?_
  refine w_lcall ?_
  refine w_acons ?_
  refine w_var rfl ?_
  refine w_anil ?_
  refine O1.of (x := gListOf _) rfl ?_
  refine thenQ_nx ?_
  try simp only [List.set_cons_zero, List.set_cons_succ, List.map_cons, List.map_nil, mdSl, putBack, wipeE, permL, List.filterMap_cons, List.filterMap_nil, List.getElem?_cons_zero, List.getElem?_cons_succ]
  refine w_seq ?_
  refine O1.mono (Q := fun o => o = .nx [.va (accD es), .va (.tuple [.str (sqS dy), chD ch]), .va (.list (nD (lineN es))), .va (.list (nD (walkN es dy))), .un, .un, .un, .un, .un, .un]) ?_ ?_
  · have hw : (walkI es dy).map PyData.int = nD (walkN es dy) := by rw [walk_cI]
    rw [← hw, show nD (lineN es) = (lineL es).map PyData.int by rw [line_cI es]]
    cases dy with
    | true =>
      refine st_ ?_
      rfl
    | false =>
      refine st_ ?_
      refine O1.of (gSortA_ints _) ?_
      refine st_ ?_
      rfl
  rintro _ rfl
  have hL := lineN_len es
  have hWl : (walkN es dy).length ≤ 1000 := by
    rw [(walkN_perm es dy).length_eq]
    omega
  refine st_ ?_
  refine w_foldR (fun (W : List Nat) (st : GSt) en => ∃ s6 s7 s8 s9 : Sl, en = [.va (.tuple (es.map Ent.D)), .va (.tuple [.str (sqS dy), chD ch]), .va (.list (nD (lineN es))), .va (.list (nD (walkN es dy))), .dc ⟨false, false⟩ (dL st.left st.met), .ow (st.rows.map triD), s6, s7, s8, s9] ∧
    st.left.length = es.length ∧ st.rows.length + 1000 * W.length ≤ 1000000 ∧ (∀ k ∈ W, k ∉ st.met) ∧ W.Nodup ∧ (∀ k ∈ W, ∃ e, es[k]? = some e ∧ e.isStruck = false) ∧ st.met.length + W.length ≤ 1000 ∧ (∀ k ∈ st.met, k < es.length) ∧ (∀ k, k ∉ st.met → lvN st.left k = sumAt es k) ∧ (∀ k, 0 ≤ lvN st.left k)) (stepN es ch (lineN es)) _ ⟨es.map Ent.sum, [], []⟩ _
    ⟨_, _, _, _, rfl, by simp, by simp only [List.length_nil]; omega, (fun _ _ z => nomatch z), walkN_nodup es dy, fun k hk => walkN_mem hk, by simp only [List.length_nil]; omega, (fun _ z => nomatch z), fun k _ => lv_sums, fun k => by rw [lv_sums]; exact sum_nn h k⟩ (fun i W st en hI => ?_) fun en hI => ?_
  · obtain ⟨s6, s7, s8, s9, rfl, hl, hr, hm, nd, hes, hml, hmet, hout, hnn⟩ := hI
    obtain ⟨e, he, hse⟩ := hes i (by simp)
    have him := hm i (by simp)
    have hie := (List.getElem?_eq_some_iff.mp he).1
    refine w_turn ?_
    refine st_ ?_
    refine O1.of (atI_map he) ?_
    refine st_ ?_
    refine O1.of (e.ix2 hse) ?_
    refine st_ ?_
    refine ⟨false, _, [.inl (i : Int)], rfl, rfl, by rw [dN_len]; exact Nat.lt_of_lt_of_le (show st.met.length < 1001 by omega) (by decide), ?_⟩
    have hsum : lvN st.left i = e.sum := by
      rw [hout i him]
      unfold sumAt
      rw [he]
    rw [← hsum, show putD (dL st.left st.met) [.inl (i : Int)] (.int (lvN st.left i)) = dL st.left (st.met ++ [i]) from put_new (f := fun k => .int (lvN st.left k)) him]
    try simp only [List.set_cons_zero, List.set_cons_succ, List.map_cons, List.map_nil, mdSl, putBack, wipeE, permL, List.filterMap_cons, List.filterMap_nil, List.getElem?_cons_zero, List.getElem?_cons_succ]
    refine st_ ?_
    refine ⟨by rw [List.length_map]; exact ⟨by omega, by omega⟩, ?_⟩
    have ndO : (othersN (lineN es) st.met st.left).Nodup := (lineN_nodup es).filter _
    have hOl : (othersN (lineN es) st.met st.left).length ≤ es.length := Nat.le_trans (List.length_filter_le _ _) hL
    have hPl : (partN es ch st.left i (othersN (lineN es) st.met st.left)).length ≤ es.length := Nat.le_trans (part_len ndO) hOl
    have hPs : ∀ o ∈ partN es ch st.left i (othersN (lineN es) st.met st.left), o < es.length ∧ o ≠ i ∧ o ∈ st.met ∧ 0 < lvN st.left o := fun o ho => by
      obtain ⟨h1, h2⟩ := part_sub ndO ho
      have h3 := (List.mem_filter.mp h1)
      have h4 := h3.2
      rw [Bool.and_eq_true] at h4
      exact ⟨lineN_lt h3.1, h2, of_decide_eq_true h4.1, of_decide_eq_true h4.2⟩
    have key := s_turns (dy := dy) he hz him hmet (by omega) (fun b hb => named_bill h hb) (fun k hk => (hPs k hk).2.2.2) (List.range es.length) (partN es ch st.left i (othersN (lineN es) st.met st.left)) (st.left, st.rows) s7 s8 s9 hl (by
      simp only [List.length_cons] at hr
      dsimp only
      omega) (by rw [List.length_range]; exact hPl) (fun o ho => ⟨(hPs o ho).1, (hPs o ho).2.1, (hPs o ho).2.2.1⟩) hnn (.inr ⟨⟨[], rfl⟩, fun o h1 h2 => absurd h1 h2, fun _ _ => rfl, fun _ _ _ => rfl⟩)
    rw [show ((es.map Ent.D).length : Int).toNat = es.length by simp]
    refine key.mono ?_
    rintro _ ⟨t7, t8, t9, rfl⟩
    have hfr := fold_rows es i (partN es ch st.left i (othersN (lineN es) st.met st.left)) (st.left, st.rows)
    have hPs2 : ∀ o ∈ partN es ch st.left i (othersN (lineN es) st.met st.left), o < (st.left, st.rows).1.length ∧ o ≠ i := fun o ho => ⟨by rw [hl]; exact (hPs o ho).1, (hPs o ho).2.1⟩
    refine ⟨_, rfl, _, _, _, _, rfl, by rw [← hl]; exact fold_len _ _ _ _, ?_, fun k hk => ?_, (List.nodup_cons.mp nd).2, fun k hk => hes k (List.mem_cons_of_mem _ hk), ?_, fun k hk => ?_, fun k hk => ?_, ?_⟩
    · simp only [List.length_cons] at hr
      show ((partN es ch st.left i (othersN (lineN es) st.met st.left)).foldl (pairN es i) (st.left, st.rows)).2.length + 1000 * W.length ≤ 1000000
      dsimp only at hfr
      omega
    · show k ∉ st.met ++ [i]
      rw [List.mem_append, List.mem_singleton]
      rintro (z | z)
      · exact hm k (List.mem_cons_of_mem _ hk) z
      · rw [z] at hk
        exact (List.nodup_cons.mp nd).1 hk
    · show (st.met ++ [i]).length + W.length ≤ 1000
      simp only [List.length_append, List.length_cons, List.length_nil] at hml ⊢
      omega
    · have hk : k ∈ st.met ++ [i] := hk
      rw [List.mem_append, List.mem_singleton] at hk
      rcases hk with hk | rfl
      · exact hmet k hk
      · exact hie
    · have hk : k ∉ st.met ++ [i] := hk
      rw [List.mem_append, List.mem_singleton] at hk
      have h1 : k ∉ st.met := fun z => hk (.inl z)
      have h2 : k ≠ i := fun z => hk (.inr z)
      show lvN ((partN es ch st.left i (othersN (lineN es) st.met st.left)).foldl (pairN es i) (st.left, st.rows)).1 k = _
      rw [fold_out _ _ (by rw [hl]; exact hie) hPs2 h2 fun z => h1 (hPs k z).2.2.1]
      exact hout k h1
    · exact fold_nn _ _ (by rw [hl]; exact hie) hPs2 hnn
  · obtain ⟨s6, s7, s8, s9, rfl, hl, hr, hm, nd, hes, hml, hmet, hout, hnn⟩ := hI
    refine st_ ?_
    refine O1.of (gSortA_tri (by
      simp only [List.length_nil] at hr
      exact Nat.le_of_lt (rows_cap (Nat.le_trans (Nat.le_of_eq rfl) (by omega))))) ?_
    rfl
end VL

namespace VL
open PySem PySem.Spec PyProof.Rows L2 G
theorem way_of {n : Nat} {js : List D} (hj : JB n js) (hn : n ≤ 1000000) : O2 (C_drawn_way [.ow js]) fun r en => ∃ (dy : Bool) (ch : Ch) (js' : List D) (s : En), r = manD dy ch ∧ en = .ow js' :: s ∧ JB (n + 2) js' := by
  refine w_fn 2 ?_
  try simp only [List.length_cons, List.length_nil, Nat.reduceAdd, Nat.reduceSub, List.replicate_succ, List.replicate_zero, List.cons_append, List.nil_append]
  unfold f__law_drawn_way
  refine st_ ?_
  try simp only [List.set_cons_zero, List.set_cons_succ, List.map_cons, List.map_nil, mdSl, putBack, wipeE, permL, List.filterMap_cons, List.filterMap_nil, List.getElem?_cons_zero, List.getElem?_cons_succ]
  refine st_ ?_
  refine (s_pick hj (by omega) (by decide) (by decide)).mono ?_
  rintro _ _ ⟨r1, js1, x1, rfl, rfl, hJ1, a0, a1⟩
  refine st_ ?_
  try simp only [List.set_cons_zero, List.set_cons_succ, List.map_cons, List.map_nil, mdSl, putBack, wipeE, permL, List.filterMap_cons, List.filterMap_nil, List.getElem?_cons_zero, List.getElem?_cons_succ]
  refine w_ixL a0 (by simpa using a1) fun d1 e1 => ?_
  have hd1 : ∃ dy : Bool, d1 = .str (sqS dy) := by
    have := List.mem_of_getElem? e1
    simp only [List.mem_cons, List.not_mem_nil, or_false] at this
    rcases this with rfl | rfl
    · exact ⟨true, rfl⟩
    · exact ⟨false, rfl⟩
  obtain ⟨dy, rfl⟩ := hd1
  clear e1
  refine st_ ?_
  try simp only [List.set_cons_zero, List.set_cons_succ, List.map_cons, List.map_nil, mdSl, putBack, wipeE, permL, List.filterMap_cons, List.filterMap_nil, List.getElem?_cons_zero, List.getElem?_cons_succ]
  refine (s_pick hJ1 (by omega) (by decide) (by decide)).mono ?_
  rintro _ _ ⟨r2, js2, x2, rfl, rfl, hJ2, b0, b1⟩
  refine st_ ?_
  try simp only [List.set_cons_zero, List.set_cons_succ, List.map_cons, List.map_nil, mdSl, putBack, wipeE, permL, List.filterMap_cons, List.filterMap_nil, List.getElem?_cons_zero, List.getElem?_cons_succ]
  refine w_ixL b0 (by simpa using b1) fun d2 e2 => ?_
  have hd2 : ∃ ch : Ch, d2 = chD ch := by
    have := List.mem_of_getElem? e2
    simp only [List.mem_cons, List.not_mem_nil, or_false] at this
    rcases this with rfl | rfl | rfl | rfl
    · exact ⟨.oldest, rfl⟩
    · exact ⟨.newest, rfl⟩
    · exact ⟨.greatest, rfl⟩
    · exact ⟨.least, rfl⟩
  obtain ⟨ch, rfl⟩ := hd2
  refine st_ ?_
  exact ⟨dy, ch, js2, _, rfl, rfl, hJ2.mono (by omega)⟩
def wayD (p : Bool × Ch) : D := manD p.1 p.2
end VL

namespace VL
open PySem PySem.Spec PyProof.Rows L2 G
theorem s_like_moves (n : Nat) (A B : List Tri) (hl : A.length + B.length ≤ 10000) : O2 (C_like (n + 3) [.va (.list ((movesN A B).map (mvD A B))), .va (.list ((movesN A B).map (mvD A B)))]) fun r en => r = .bool true :=
  s_like_list (n + 2) _ (by rw [List.length_map]; exact Nat.le_trans moves_len hl) fun d hd => by
    obtain ⟨t, _, rfl⟩ := List.mem_map.mp hd
    refine s_like_tup (n + 1) _ (show 4 ≤ 10000 by decide) fun d hd => ?_
    simp only [List.mem_cons, List.not_mem_nil, or_false] at hd
    rcases hd with rfl | rfl | rfl | rfl <;> exact s_like_int n _
theorem s_law {ns : List Int} (hl : ns.length ≤ 63) : O2 (C_law [.va (.list (ns.map .int))]) fun r en => r = .bool true := by
  obtain ⟨ms, hms, hml, _⟩ := cut_map ns none (some 5)
  refine w_fn 11 ?_
  try simp only [List.length_cons, List.length_nil, Nat.reduceAdd, Nat.reduceSub, List.replicate_succ, List.replicate_zero, List.cons_append, List.nil_append]
  unfold f_law
  refine st_ ?_
  refine O1.of (x := sliceD _ _ _) (by show some (PyData.list _) = _; rw [hms]) ?_
  generalize (20048491989748017551446101082105509808189484718010708759011152451498173371982939529240913595893 : Int) = great
  refine st_ ?_
  refine O1.of (x := gAdd _ _) (if_pos (by
    rw [List.length_map]
    simp only [List.length_cons, List.length_nil]
    exact Nat.le_trans (show _ ≤ 1001 by omega) (by decide))) ?_
  refine st_ ?_
  try simp only [List.set_cons_zero, List.set_cons_succ, List.map_cons, List.map_nil, mdSl, putBack, wipeE, permL, List.filterMap_cons, List.filterMap_nil, List.getElem?_cons_zero, List.getElem?_cons_succ]
  show O1 (forD _ ((great :: ms).map PyData.int) _) _
  refine w_forD (fun i en => ∃ (s2 s3 s4 s5 s6 s7 s8 s9 s10 : Sl), en = [.va (.list (ns.map .int)), .va (.int great), s2, s3, s4, s5, s6, s7, s8, s9, s10]) _ 0 _ ⟨_, _, _, _, _, _, _, _, _, rfl⟩ (fun i t en et hI => ?_) fun en hI => ?_
  · obtain ⟨s2, s3, s4, s5, s6, s7, s8, s9, s10, rfl⟩ := hI
    clear et
    refine w_turn ?_
    refine st_ ?_
    try simp only [List.set_cons_zero, List.set_cons_succ, List.map_cons, List.map_nil, mdSl, putBack, wipeE, permL, List.filterMap_cons, List.filterMap_nil, List.getElem?_cons_zero, List.getElem?_cons_succ]
    refine (s_filled t).mono ?_
    rintro _ _ ⟨rfl, hJ⟩
    try simp only [List.set_cons_zero, List.set_cons_succ, List.map_cons, List.map_nil, mdSl, putBack, wipeE, permL, List.filterMap_cons, List.filterMap_nil, List.getElem?_cons_zero, List.getElem?_cons_succ]
    refine st_ ?_
    try simp only [List.set_cons_zero, List.set_cons_succ, List.map_cons, List.map_nil, mdSl, putBack, wipeE, permL, List.filterMap_cons, List.filterMap_nil, List.getElem?_cons_zero, List.getElem?_cons_succ]
    refine st_ ?_
    try simp only [List.set_cons_zero, List.set_cons_succ, List.map_cons, List.map_nil, mdSl, putBack, wipeE, permL, List.filterMap_cons, List.filterMap_nil, List.getElem?_cons_zero, List.getElem?_cons_succ]
    refine (s_drawn (upto := 20) hJ (by decide) (by decide) (by decide)).mono ?_
    rintro _ _ ⟨es, js1, x1, rfl, hel, hok, rfl, hJ1⟩
    rw [show PyData.tuple (es.map Ent.D) = accD es from rfl]
    have hJ1 : JB 300 js1 := hJ1.mono (by decide)
    refine st_ ?_
    try simp only [List.set_cons_zero, List.set_cons_succ, List.map_cons, List.map_nil, mdSl, putBack, wipeE, permL, List.filterMap_cons, List.filterMap_nil, List.getElem?_cons_zero, List.getElem?_cons_succ]
    refine st_ ?_
    try simp only [List.set_cons_zero, List.set_cons_succ, List.map_cons, List.map_nil, mdSl, putBack, wipeE, permL, List.filterMap_cons, List.filterMap_nil, List.getElem?_cons_zero, List.getElem?_cons_succ]
    refine (s_beside hJ1 (by decide) hok (by omega)).mono ?_
    rintro _ _ ⟨fs, js2, x2, rfl, hok2, hfl, rfl, hJ2⟩
    refine st_ ?_
    try simp only [List.set_cons_zero, List.set_cons_succ, List.map_cons, List.map_nil, mdSl, putBack, wipeE, permL, List.filterMap_cons, List.filterMap_nil, List.getElem?_cons_zero, List.getElem?_cons_succ]
    refine st_ ?_
    try simp only [List.set_cons_zero, List.set_cons_succ, List.map_cons, List.map_nil, mdSl, putBack, wipeE, permL, List.filterMap_cons, List.filterMap_nil, List.getElem?_cons_zero, List.getElem?_cons_succ]
    refine (way_of hJ2 (by decide)).mono ?_
    rintro _ _ ⟨dy, ch, js3, x3, rfl, rfl, hJ3⟩
    have hA := rows_few (es := es) (dy := dy) (ch := ch)
    have hB := rows_few (es := fs) (dy := dy) (ch := ch)
    have wA := lay_laid (es := es) (dy := dy) (ch := ch)
    have wB := lay_laid (es := fs) (dy := dy) (ch := ch)
    have nA := nn_laid wA
    have nB := nn_laid wB
    have ndA := wA.nd
    have ndB := wB.nd
    have hel : es.length ≤ 20 := by omega
    have lay1 : O2 (C_lay [.va (accD es), .va (manD dy ch)]) fun ds en => ds = (laidT es dy ch).map triD := s_law_lay hok (by omega)
    have lay2 : O2 (C_lay [.va (accD fs), .va (manD dy ch)]) fun ds en => ds = (laidT fs dy ch).map triD := s_law_lay hok2 (by omega)
    have m12 := s_moved (dy := dy) (ch := ch) hok hok2 (show es.length + fs.length < 64 by omega)
    have m21 := s_moved (dy := dy) (ch := ch) hok2 hok (show fs.length + es.length < 64 by omega)
    have m11 := s_moved (dy := dy) (ch := ch) hok hok (show es.length + es.length < 64 by omega)
    have m22 := s_moved (dy := dy) (ch := ch) hok2 hok2 (show fs.length + fs.length < 64 by omega)
    generalize laidT es dy ch = A at hA nA ndA lay1 m12 m21 m11
    generalize laidT fs dy ch = B at hB nB ndB lay2 m12 m21 m22
    clear wA wB
    rw [moves_self] at m11 m22
    have d12 := s_due_moves nA nB (show A.length + B.length < 64 by omega)
    have d21 := s_due_moves nB nA (show B.length + A.length < 64 by omega)
    have l12 : O2 (C_like 20 [.va (.list ((movesN A B).map (mvD A B))), .va (.list ((movesN A B).map (mvD A B)))]) fun r en => r = .bool true := s_like_moves 17 A B (by omega)
    have l21 : O2 (C_like 20 [.va (.list ((movesN B A).map (mvD B A))), .va (.list ((movesN B A).map (mvD B A)))]) fun r en => r = .bool true := s_like_moves 17 B A (by omega)
    have hcap : ((movesN A B).map (mvD A B)).length < sizeLine := by
      rw [List.length_map]
      exact Nat.lt_of_le_of_lt moves_len (Nat.lt_of_lt_of_le (show A.length + B.length < 64 by omega) (by decide))
    generalize (movesN A B).map (mvD A B) = M at m12 d12 l12 hcap
    generalize (movesN B A).map (mvD B A) = M2 at m21 d21 l21
    refine st_ ?_
    try simp only [List.set_cons_zero, List.set_cons_succ, List.map_cons, List.map_nil, mdSl, putBack, wipeE, permL, List.filterMap_cons, List.filterMap_nil, List.getElem?_cons_zero, List.getElem?_cons_succ]
    refine st_ ?_
    try simp only [List.set_cons_zero, List.set_cons_succ, List.map_cons, List.map_nil, mdSl, putBack, wipeE, permL, List.filterMap_cons, List.filterMap_nil, List.getElem?_cons_zero, List.getElem?_cons_succ]
    refine lay1.mono ?_
    rintro _ _ rfl
    refine st_ ?_
    try simp only [List.set_cons_zero, List.set_cons_succ, List.map_cons, List.map_nil, mdSl, putBack, wipeE, permL, List.filterMap_cons, List.filterMap_nil, List.getElem?_cons_zero, List.getElem?_cons_succ]
    refine (s_sums_of ndA (by omega)).mono ?_
    rintro _ _ rfl
    refine st_ ?_
    try simp only [List.set_cons_zero, List.set_cons_succ, List.map_cons, List.map_nil, mdSl, putBack, wipeE, permL, List.filterMap_cons, List.filterMap_nil, List.getElem?_cons_zero, List.getElem?_cons_succ]
    refine lay2.mono ?_
    rintro _ _ rfl
    refine st_ ?_
    try simp only [List.set_cons_zero, List.set_cons_succ, List.map_cons, List.map_nil, mdSl, putBack, wipeE, permL, List.filterMap_cons, List.filterMap_nil, List.getElem?_cons_zero, List.getElem?_cons_succ]
    refine (s_sums_of ndB (by omega)).mono ?_
    rintro _ _ rfl
    refine st_ ?_
    try simp only [List.set_cons_zero, List.set_cons_succ, List.map_cons, List.map_nil, mdSl, putBack, wipeE, permL, List.filterMap_cons, List.filterMap_nil, List.getElem?_cons_zero, List.getElem?_cons_succ]
    refine st_ ?_
    try simp only [List.set_cons_zero, List.set_cons_succ, List.map_cons, List.map_nil, mdSl, putBack, wipeE, permL, List.filterMap_cons, List.filterMap_nil, List.getElem?_cons_zero, List.getElem?_cons_succ]
    refine d12.mono ?_
    rintro _ _ ⟨rfl, y1, rfl⟩
    refine st_ ?_
    try simp only [List.set_cons_zero, List.set_cons_succ, List.map_cons, List.map_nil, mdSl, putBack, wipeE, permL, List.filterMap_cons, List.filterMap_nil, List.getElem?_cons_zero, List.getElem?_cons_succ]
    refine m12.mono ?_
    rintro _ _ rfl
    refine st_ ?_
    try simp only [List.set_cons_zero, List.set_cons_succ, List.map_cons, List.map_nil, mdSl, putBack, wipeE, permL, List.filterMap_cons, List.filterMap_nil, List.getElem?_cons_zero, List.getElem?_cons_succ]
    refine st_ ?_
    try simp only [List.set_cons_zero, List.set_cons_succ, List.map_cons, List.map_nil, mdSl, putBack, wipeE, permL, List.filterMap_cons, List.filterMap_nil, List.getElem?_cons_zero, List.getElem?_cons_succ]
    refine l12.mono ?_
    rintro _ _ rfl
    refine ⟨rfl, ?_⟩
    refine st_ ?_
    try simp only [List.set_cons_zero, List.set_cons_succ, List.map_cons, List.map_nil, mdSl, putBack, wipeE, permL, List.filterMap_cons, List.filterMap_nil, List.getElem?_cons_zero, List.getElem?_cons_succ]
    refine m21.mono ?_
    rintro _ _ rfl
    refine st_ ?_
    try simp only [List.set_cons_zero, List.set_cons_succ, List.map_cons, List.map_nil, mdSl, putBack, wipeE, permL, List.filterMap_cons, List.filterMap_nil, List.getElem?_cons_zero, List.getElem?_cons_succ]
    refine d21.mono ?_
    rintro _ _ ⟨rfl, y2, rfl⟩
    refine st_ ?_
    try simp only [List.set_cons_zero, List.set_cons_succ, List.map_cons, List.map_nil, mdSl, putBack, wipeE, permL, List.filterMap_cons, List.filterMap_nil, List.getElem?_cons_zero, List.getElem?_cons_succ]
    refine l21.mono ?_
    rintro _ _ rfl
    refine st_ ?_
    refine ⟨hcap, ?_⟩
    refine st_ ?_
    try simp only [List.set_cons_zero, List.set_cons_succ, List.map_cons, List.map_nil, mdSl, putBack, wipeE, permL, List.filterMap_cons, List.filterMap_nil, List.getElem?_cons_zero, List.getElem?_cons_succ]
    refine m12.mono ?_
    rintro _ _ rfl
    refine st_ ?_
    try simp only [List.set_cons_zero, List.set_cons_succ, List.map_cons, List.map_nil, mdSl, putBack, wipeE, permL, List.filterMap_cons, List.filterMap_nil, List.getElem?_cons_zero, List.getElem?_cons_succ]
    refine l12.mono ?_
    rintro _ _ rfl
    refine st_ ?_
    try simp only [List.set_cons_zero, List.set_cons_succ, List.map_cons, List.map_nil, mdSl, putBack, wipeE, permL, List.filterMap_cons, List.filterMap_nil, List.getElem?_cons_zero, List.getElem?_cons_succ]
    refine m11.mono ?_
    rintro _ _ rfl
    have nil : PyData.eqv (.list []) (.list []) = true := by simp [PyData.eqv, PyData.eqvAll]
    rw [List.map_nil]
    refine st_ ?_
    try simp only [List.set_cons_zero, List.set_cons_succ, List.map_cons, List.map_nil, mdSl, putBack, wipeE, permL, List.filterMap_cons, List.filterMap_nil, List.getElem?_cons_zero, List.getElem?_cons_succ]
    refine m22.mono ?_
    rintro _ _ rfl
    rw [List.map_nil]
    refine st_ ?_
    exact ⟨_, rfl, _, _, _, _, _, _, _, _, _, rfl⟩
  · obtain ⟨s2, s3, s4, s5, s6, s7, s8, s9, s10, rfl⟩ := hI
    refine st_ ?_
    rfl
end VL

open PySem PySem.W in
open PyProof.Rows in
set_option maxRecDepth 100000 in
set_option maxHeartbeats 0 in
theorem PySem.Challenge.cw_oldestbills_k10_pairs_that_moved_holds : PySem.Challenge.rw_oldestbills_k10_pairs_that_moved.Holds := by
  w_on
  o_law
  k_head
  (case hw => w_witness2)
  k_fill
  refine VL.law_walkT (l := PySem.Challenge.rw_oldestbills_k10_pairs_that_moved) (F := G.C_law) (k := 27) (fun ns hl => VL.s_law (by omega)) rfl rfl ⟨rfl, by decide, by decide⟩ (fun w h Y => PySem.W.km_in_of Y) (fun w => by kernel_rfl) ?G
  case G =>
    intro w mg fa h Y KX GN hmg
    refine' VL.law_at2 (st := G.s_law) (x1 := "ranked") (st1 := G.s_ranked) (ps1 := ["bills", "left", "choice"]) (x2 := "_law_along") (st2 := G.s__law_along) (ps2 := ["acct"]) ?y1 ?e1 ?y2 ?e2 ?ne ?nlaw hmg (fun _ _ _ _ _ _ _ => rfl) ?dlaw
    (case y1 => refine' VL.lamF_mk KX GN ?a ?l ?cd ?k G.bd_ranked ?lc ?h11 ?hd ?n; (case a => k_is); (case l => k_is); (case cd => k_is); (case k => k_is); (case lc => k_is); (case h11 => rfl); (case hd => kernel_rfl); (case n => kernel_rfl))
    (case e1 => exact PySem.W.km_tabs_of Y _ (by decide))
    (case y2 => refine' VL.lamF_mk KX GN ?a ?l ?cd ?k G.bd__law_along ?lc ?h11 ?hd ?n; (case a => k_is); (case l => k_is); (case cd => k_is); (case k => k_is); (case lc => k_is); (case h11 => rfl); (case hd => kernel_rfl); (case n => kernel_rfl))
    (case e2 => exact PySem.W.km_tabs_of Y _ (by decide))
    (case ne => decide)
    (case nlaw => refine' VL.nmd_mk KX GN ?a ?l ?c ?k G.bd_law; (case a => k_is); (case l => k_is); (case c => k_is); (case k => k_is))
    case dlaw =>
      intro base n0 n1
      refine (fun (T : G.Txt _ mg base _) => G.dd_law T) ?T
      refine' ⟨?z_all, ?z_bool, ?z_int, ?z_isinstance, ?z_len, ?z_list, ?z_max, ?z_min, ?z_range, ?z_set, ?z_sorted, ?z_str, ?z_tuple, ?z_type, ?z_zip, ?c_CHOICES, ?c_SEQUENCES, ?d_is_integer, ?d_is_sum, ?d_has_entry_form, ?d_names_its_bill, ?d_fits_account, ?d_fits_manner, ?d_is_index, ?d_is_bill_index, ?d_sum_of, ?d_check_account, ?d_check_manner, ?d_along, ?d_laid_by, ?d_gone_through, ?d_partners_of, n0, ?d_pair_row, ?d_moved, ?d_moved_rows, ?d__law_filled, ?d__law_pick, ?d__law_is_int, ?d__law_like, ?d__law_frame, ?d__law_slips, ?d__law_named, ?d__law_many, ?d__law_drawn, ?d__law_bare, ?d__law_drawn_way, n1, ?d__law_mate, ?d__law_lay, ?d__law_sums_of, ?d__law_beside, ?d__law_due_moves, ?d_law, ?k_moved_manner_other_account_account⟩
      (case z_all => refine' PySem.W.mg_none_of KX GN ?z; (case z => k_is))
      (case z_bool => refine' PySem.W.mg_none_of KX GN ?z; (case z => k_is))
      (case z_int => refine' PySem.W.mg_none_of KX GN ?z; (case z => k_is))
      (case z_isinstance => refine' PySem.W.mg_none_of KX GN ?z; (case z => k_is))
      (case z_len => refine' PySem.W.mg_none_of KX GN ?z; (case z => k_is))
      (case z_list => refine' PySem.W.mg_none_of KX GN ?z; (case z => k_is))
      (case z_max => refine' PySem.W.mg_none_of KX GN ?z; (case z => k_is))
      (case z_min => refine' PySem.W.mg_none_of KX GN ?z; (case z => k_is))
      (case z_range => refine' PySem.W.mg_none_of KX GN ?z; (case z => k_is))
      (case z_set => refine' PySem.W.mg_none_of KX GN ?z; (case z => k_is))
      (case z_sorted => refine' PySem.W.mg_none_of KX GN ?z; (case z => k_is))
      (case z_str => refine' PySem.W.mg_none_of KX GN ?z; (case z => k_is))
      (case z_tuple => refine' PySem.W.mg_none_of KX GN ?z; (case z => k_is))
      (case z_type => refine' PySem.W.mg_none_of KX GN ?z; (case z => k_is))
      (case z_zip => refine' PySem.W.mg_none_of KX GN ?z; (case z => k_is))
      (case c_CHOICES => refine' VL.cst_mk KX GN ?a ?l ?s ?v; (case a => k_is); (case l => k_is); (case s => exact by decide); (case v => exact VL.vals_strs (by rfl)))
      (case c_SEQUENCES => refine' VL.cst_mk KX GN ?a ?l ?s ?v; (case a => k_is); (case l => k_is); (case s => exact by decide); (case v => exact VL.vals_strs (by rfl)))
      (case d_is_integer => refine' VL.nmd_mk KX GN ?a ?l ?c ?k G.bd_is_integer; (case a => k_is); (case l => k_is); (case c => k_is); (case k => k_is))
      (case d_is_sum => refine' VL.nmd_mk KX GN ?a ?l ?c ?k G.bd_is_sum; (case a => k_is); (case l => k_is); (case c => k_is); (case k => k_is))
      (case d_has_entry_form => refine' VL.nmd_mk KX GN ?a ?l ?c ?k G.bd_has_entry_form; (case a => k_is); (case l => k_is); (case c => k_is); (case k => k_is))
      (case d_names_its_bill => refine' VL.nmd_mk KX GN ?a ?l ?c ?k G.bd_names_its_bill; (case a => k_is); (case l => k_is); (case c => k_is); (case k => k_is))
      (case d_fits_account => refine' VL.nmd_mk KX GN ?a ?l ?c ?k G.bd_fits_account; (case a => k_is); (case l => k_is); (case c => k_is); (case k => k_is))
      (case d_fits_manner => refine' VL.nmd_mk KX GN ?a ?l ?c ?k G.bd_fits_manner; (case a => k_is); (case l => k_is); (case c => k_is); (case k => k_is))
      (case d_is_index => refine' VL.nmd_mk KX GN ?a ?l ?c ?k G.bd_is_index; (case a => k_is); (case l => k_is); (case c => k_is); (case k => k_is))
      (case d_is_bill_index => refine' VL.nmd_mk KX GN ?a ?l ?c ?k G.bd_is_bill_index; (case a => k_is); (case l => k_is); (case c => k_is); (case k => k_is))
      (case d_sum_of => refine' VL.nmd_mk KX GN ?a ?l ?c ?k G.bd_sum_of; (case a => k_is); (case l => k_is); (case c => k_is); (case k => k_is))
      (case d_check_account => refine' VL.nmd_mk KX GN ?a ?l ?c ?k G.bd_check_account; (case a => k_is); (case l => k_is); (case c => k_is); (case k => k_is))
      (case d_check_manner => refine' VL.nmd_mk KX GN ?a ?l ?c ?k G.bd_check_manner; (case a => k_is); (case l => k_is); (case c => k_is); (case k => k_is))
      (case d_along => refine' VL.nmd_mk KX GN ?a ?l ?c ?k G.bd_along; (case a => k_is); (case l => k_is); (case c => k_is); (case k => k_is))
      (case d_laid_by => refine' VL.nmd_mk KX GN ?a ?l ?c ?k G.bd_laid_by; (case a => k_is); (case l => k_is); (case c => k_is); (case k => k_is))
      (case d_gone_through => refine' VL.nmd_mk KX GN ?a ?l ?c ?k G.bd_gone_through; (case a => k_is); (case l => k_is); (case c => k_is); (case k => k_is))
      (case d_partners_of => refine' VL.nmd_mk KX GN ?a ?l ?c ?k G.bd_partners_of; (case a => k_is); (case l => k_is); (case c => k_is); (case k => k_is))
      (case d_pair_row => refine' VL.nmd_mk KX GN ?a ?l ?c ?k G.bd_pair_row; (case a => k_is); (case l => k_is); (case c => k_is); (case k => k_is))
      (case d_moved => refine' VL.nmd_mk KX GN ?a ?l ?c ?k G.bd_moved; (case a => k_is); (case l => k_is); (case c => k_is); (case k => k_is))
      (case d_moved_rows => refine' VL.nmd_mk KX GN ?a ?l ?c ?k G.bd_moved_rows; (case a => k_is); (case l => k_is); (case c => k_is); (case k => k_is))
      (case d__law_filled => refine' VL.nmd_mk KX GN ?a ?l ?c ?k G.bd__law_filled; (case a => k_is); (case l => k_is); (case c => k_is); (case k => k_is))
      (case d__law_pick => refine' VL.nmd_mk KX GN ?a ?l ?c ?k G.bd__law_pick; (case a => k_is); (case l => k_is); (case c => k_is); (case k => k_is))
      (case d__law_is_int => refine' VL.nmd_mk KX GN ?a ?l ?c ?k G.bd__law_is_int; (case a => k_is); (case l => k_is); (case c => k_is); (case k => k_is))
      (case d__law_like => refine' VL.nmd_mk KX GN ?a ?l ?c ?k G.bd__law_like; (case a => k_is); (case l => k_is); (case c => k_is); (case k => k_is))
      (case d__law_frame => refine' VL.nmd_mk KX GN ?a ?l ?c ?k G.bd__law_frame; (case a => k_is); (case l => k_is); (case c => k_is); (case k => k_is))
      (case d__law_slips => refine' VL.nmd_mk KX GN ?a ?l ?c ?k G.bd__law_slips; (case a => k_is); (case l => k_is); (case c => k_is); (case k => k_is))
      (case d__law_named => refine' VL.nmd_mk KX GN ?a ?l ?c ?k G.bd__law_named; (case a => k_is); (case l => k_is); (case c => k_is); (case k => k_is))
      (case d__law_many => refine' VL.nmd_mk KX GN ?a ?l ?c ?k G.bd__law_many; (case a => k_is); (case l => k_is); (case c => k_is); (case k => k_is))
      (case d__law_drawn => refine' VL.nmd_mk KX GN ?a ?l ?c ?k G.bd__law_drawn; (case a => k_is); (case l => k_is); (case c => k_is); (case k => k_is))
      (case d__law_bare => refine' VL.nmd_mk KX GN ?a ?l ?c ?k G.bd__law_bare; (case a => k_is); (case l => k_is); (case c => k_is); (case k => k_is))
      (case d__law_drawn_way => refine' VL.nmd_mk KX GN ?a ?l ?c ?k G.bd__law_drawn_way; (case a => k_is); (case l => k_is); (case c => k_is); (case k => k_is))
      (case d__law_mate => refine' VL.nmd_mk KX GN ?a ?l ?c ?k G.bd__law_mate; (case a => k_is); (case l => k_is); (case c => k_is); (case k => k_is))
      (case d__law_lay => refine' VL.nmd_mk KX GN ?a ?l ?c ?k G.bd__law_lay; (case a => k_is); (case l => k_is); (case c => k_is); (case k => k_is))
      (case d__law_sums_of => refine' VL.nmd_mk KX GN ?a ?l ?c ?k G.bd__law_sums_of; (case a => k_is); (case l => k_is); (case c => k_is); (case k => k_is))
      (case d__law_beside => refine' VL.nmd_mk KX GN ?a ?l ?c ?k G.bd__law_beside; (case a => k_is); (case l => k_is); (case c => k_is); (case k => k_is))
      (case d__law_due_moves => refine' VL.nmd_mk KX GN ?a ?l ?c ?k G.bd__law_due_moves; (case a => k_is); (case l => k_is); (case c => k_is); (case k => k_is))
      (case d_law => refine' VL.nmd_mk KX GN ?a ?l ?c ?k G.bd_law; (case a => k_is); (case l => k_is); (case c => k_is); (case k => k_is))
      (case k_moved_manner_other_account_account => refine' VL.kwd_of (VL.nmd_mk KX GN ?a ?l ?c ?k G.bd_moved) G.bk_moved_manner_other_account_account; (case a => k_is); (case l => k_is); (case c => k_is); (case k => k_is))

