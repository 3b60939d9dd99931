
import PyProof.Rows.All
import Wide.All
import OpenK.AllK
import Wide.FinOn
import HandS.ForMost
import HandS.Exc
import HandS.ExcOwn
import HandS.TryOnly
import HandS.TryMany
import HandS.WordsExc
import HandS.Wide
import HandS.IsInst
import HandS.Conv
import HandS.Flow
import HandS.Style
import HandS.Deep
import HandS.TupAny
import HandS.TupLe
import HandS.Zip
import HandS.Strs
import HandS.Small
import HandS.Defaults
import KE.GoesEnum
import HandS.Head0
import HandS.Head1
import HandS.Head2
import HandS.HeadEnd
import HandS.HeadHook1
import HandS.HeadHook2
import HandS.Property
import HandS.HeadHook4
import HandS.SetFor
import HandS.SortInts
import KE.KDictList
import HandS.HeadNt
import HandS.List
import HandS.More
import HandS.Codes
import PyProof.InstNe
import KE.SortData
import HandS.ExcInit
import HandS.ExcField
import HandS.Iter
import HandS.ExcIs
import KE.DatumOrd
import HandS.HeadHook3
import KE.GoesZip
import KE.GoesMore
import KE.KDictZip
import HandS.Zip0
import HandS.Dict
import HandS.ListItems
import HandS.MakeKw
import HandS.TupMul
import HandS.Star
import HandS.Text
import Flt.Ops
import KE.KTupSum
import PyProof.TupleOfSeq
import HandS.TupSets
import HandS.GenList
import HandS.SuiteRaise
import HandS.RaiseFrom
import HandS.ExcInitHot
import PyProof.AutoSeq1
import HandS.SetTxt0
import HandS.HotCalls
import PySem.Challenge.RW_truealarms_k61_errors_side_by_side
set_option Elab.async false
set_option linter.all false
set_option maxRecDepth 100000
set_option maxHeartbeats 4000000
namespace DL
open PySem PySem.Spec PyProof.Rows L2

/-! ### deep values -/
inductive D where
  | non | bl (b : Bool) | int (i : Int) | str (x : Str)
  | lst (xs : List D) | tup (xs : List D)
  | dct (ks : List Key) (vs : List D)
  | ins (c : Str) (ns : List Str) (vs : List D)
  | scr (ns : List Int)
  | set (xs : List Int)
  | tpn (xs : List D)
  | rng (lo hi : Int)
  | exv (c : Str) (ns : List Str) (vs : List D)

/-- a set of ints at a: S its members -/
def SetI (P : Program) (w : World) (a : Addr) (S : Int → Bool) (n : Nat) : HO := .ext fun h => h.SetOf (intKind P w) a S n
/-- at a: an exception of the class at C, its dict (none | at d) -/
def XH (a C : Addr) (d : Option Addr) : HO := .ext fun h => ∃ oe vs, h.get? a = some oe ∧ oe.cls = .ref C ∧ oe.dict = d ∧ oe.data = .fields vs
/-- where the classes stand by name, the program and the world -/
structure Cw where
  f : Str → Option Addr
  P : Program
  w : World
instance : CoeFun Cw (fun _ => Str → Option Addr) := ⟨Cw.f⟩

mutual
inductive Rep (K : PySem.W.Frag) (cl : Cw) (G : Hp) : V → D → Prop
  | non : Rep K cl G .non .non
  | bl (b : Bool) : Rep K cl G (.bl b) (.bl b)
  | int (i : Int) : Rep K cl G (.int i) (.int i)
  | str (x : Str) : Rep K cl G (.str x) (.str x)
  | lst {a : Addr} {xs : List V} {ds : List D} : G a = some (.lst xs) → RepL K cl G xs ds → Rep K cl G (.ref a) (.lst ds)
  | tup {a : Addr} {xs : List V} {ds : List D} : SqT K G a xs → RepL K cl G xs ds → Rep K cl G (.ref a) (.tup ds)
  | dct {a : Addr} {ks : List Key} {xs : List V} {ds : List D} : G a = some (.dK (ks.zip xs)) → ks.length = xs.length → RepL K cl G xs ds → Rep K cl G (.ref a) (.dct ks ds)
  | ins {a C dx : Addr} {c : Str} {ns : List Str} {xs : List V} {ds : List D} : G a = some (.ins C dx (ns.zip xs)) → ns.length = xs.length → cl c = some C → RepL K cl G xs ds → Rep K cl G (.ref a) (.ins c ns ds)
  | scr {a : Addr} {ns : List Int} : SqL K G a (ns.map V.int) → Rep K cl G (.ref a) (.scr ns)
  | set {a : Addr} {xs : List Int} {S : Int → Bool} {n : Nat} : G a = some (SetI cl.P cl.w a S n) → (∀ k, S k = decide (k ∈ xs)) → Rep K cl G (.ref a) (.set xs)
  | tpn {a : Addr} {ob : Obj} {xs : List V} {ds : List D} : G a = some (.frz ob (.tup xs)) → ob.dict = none → ob.cls = .type "tuple" → RepL K cl G xs ds → Rep K cl G (.ref a) (.tpn ds)
  | rng {a : Addr} {lo hi : Int} : G a = some (.rng lo hi) → Rep K cl G (.ref a) (.rng lo hi)
  | exv0 {a C : Addr} {c : Str} : G a = some (XH a C none) → cl c = some C → Rep K cl G (.ref a) (.exv c [] [])
  | exv {a C dd : Addr} {c : Str} {ns : List Str} {xs : List (Str × V)} {vs : List V} {ds : List D} : G a = some (XH a C (some dd)) → cl c = some C → G dd = some (.xd xs) → RepL K cl G vs ds → ns.length = vs.length → (∀ n v, (n, v) ∈ ns.zip vs → xs.lookup n = some v) → Rep K cl G (.ref a) (.exv c ns ds)
inductive RepL (K : PySem.W.Frag) (cl : Cw) (G : Hp) : List V → List D → Prop
  | nil : RepL K cl G [] []
  | cons {v : V} {vs : List V} {d : D} {ds : List D} : Rep K cl G v d → RepL K cl G vs ds → RepL K cl G (v :: vs) (d :: ds)
end

def Sub (G G' : Hp) : Prop := ∀ b o, G b = some o → G' b = some o
theorem Sub.refl (G : Hp) : Sub G G := fun _ _ h => h
theorem Sub.trans {A B C : Hp} (a : Sub A B) (b : Sub B C) : Sub A C := fun c o h => b c o (a c o h)
theorem Sub.rd {G G' : Hp} (s : Sub G G') {a : Addr} {u : HO} (h : Rd G a u) : Rd G' a u := by
  rcases h with h | ⟨o, h⟩
  · exact .inl (s _ _ h)
  · exact .inr ⟨o, s _ _ h⟩
theorem Sub.sqL {K : PySem.W.Frag} {G G' : Hp} (s : Sub G G') {a : Addr} {xs : List V} (h : SqL K G a xs) : SqL K G' a xs := by
  rcases h with h | h
  · exact .inl (s.rd h)
  · exact .inr h
theorem Sub.sqT {K : PySem.W.Frag} {G G' : Hp} (s : Sub G G') {a : Addr} {xs : List V} (h : SqT K G a xs) : SqT K G' a xs := by
  rcases h with h | h
  · exact .inl (s.rd h)
  · exact .inr h
mutual
theorem Rep.mono {K : PySem.W.Frag} {cl : Cw} {G G' : Hp} (s : Sub G G') : ∀ {d : D} {v : V}, Rep K cl G v d → Rep K cl G' v d
  | .non, _, h => by cases h; exact .non
  | .bl b, _, h => by cases h; exact .bl b
  | .int i, _, h => by cases h; exact .int i
  | .str x, _, h => by cases h; exact .str x
  | .lst ds, _, h => by
    cases h with
    | lst h1 h2 => exact .lst (s _ _ h1) (RepL.mono s h2)
  | .tup ds, _, h => by
    cases h with
    | tup h1 h2 => exact .tup (s.sqT h1) (RepL.mono s h2)
  | .dct ks ds, _, h => by
    cases h with
    | dct h1 hl h2 => exact .dct (s _ _ h1) hl (RepL.mono s h2)
  | .ins c ns ds, _, h => by
    cases h with
    | ins h1 hl hc h2 => exact .ins (s _ _ h1) hl hc (RepL.mono s h2)
  | .scr ns, _, h => by
    cases h with
    | scr h1 => exact .scr (s.sqL h1)
  | .set xs, _, h => by
    cases h with
    | set h1 h2 => exact .set (s _ _ h1) h2
  | .tpn ds, _, h => by
    cases h with
    | tpn h1 hd hc h2 => exact .tpn (s _ _ h1) hd hc (RepL.mono s h2)
  | .rng lo hi, _, h => by
    cases h with
    | rng h1 => exact .rng (s _ _ h1)
  | .exv c ns ds, _, h => by
    cases h with
    | exv0 h1 h2 => exact .exv0 (s _ _ h1) h2
    | exv h1 h2 h3 h4 h5 h6 => exact .exv (s _ _ h1) h2 (s _ _ h3) (RepL.mono s h4) h5 h6
theorem RepL.mono {K : PySem.W.Frag} {cl : Cw} {G G' : Hp} (s : Sub G G') : ∀ {ds : List D} {vs : List V}, RepL K cl G vs ds → RepL K cl G' vs ds
  | [], _, h => by cases h; exact .nil
  | d :: ds, _, h => by
    cases h with
    | cons h1 h2 => exact .cons (Rep.mono s h1) (RepL.mono s h2)
end
section
variable {K : PySem.W.Frag} {cl : Cw} {G : Hp}
theorem RepL.length : ∀ {ds : List D} {vs : List V}, RepL K cl G vs ds → vs.length = ds.length
  | [], _, h => by cases h; rfl
  | d :: ds, _, h => by
    cases h with
    | cons h1 h2 => exact congrArg (· + 1) h2.length
theorem RepL.get : ∀ {ds : List D} {vs : List V}, RepL K cl G vs ds → ∀ {i : Nat} {d : D}, ds[i]? = some d → ∃ v, vs[i]? = some v ∧ Rep K cl G v d
  | [], _, h, i, d, e => by simp at e
  | d :: ds, _, h, i, e, q => by
    cases h with
    | cons h1 h2 =>
      cases i with
      | zero =>
        have z : d = e := by simpa using q
        subst z
        exact ⟨_, rfl, h1⟩
      | succ i => exact h2.get (i := i) (by simpa using q)
theorem RepL.append : ∀ {ds es : List D} {vs us : List V}, RepL K cl G vs ds → RepL K cl G us es → RepL K cl G (vs ++ us) (ds ++ es)
  | [], _, _, _, h, h' => by cases h; exact h'
  | d :: ds, _, _, _, h, h' => by
    cases h with
    | cons h1 h2 => exact .cons h1 (h2.append h')
theorem RepL.set : ∀ {ds : List D} {vs : List V}, RepL K cl G vs ds → ∀ {v : V} {d : D} (i : Nat), Rep K cl G v d → RepL K cl G (vs.set i v) (ds.set i d)
  | [], _, h, v, d, i, r => by cases h; exact .nil
  | e :: ds, _, h, v, d, i, r => by
    cases h with
    | cons h1 h2 =>
      cases i with
      | zero => exact .cons r h2
      | succ i => exact .cons h1 (h2.set i r)
theorem RepL.take : ∀ {ds : List D} {vs : List V}, RepL K cl G vs ds → ∀ (n : Nat), RepL K cl G (vs.take n) (ds.take n)
  | [], _, h, n => by cases h; simp only [List.take_nil]; exact .nil
  | e :: ds, _, h, n => by
    cases h with
    | cons h1 h2 =>
      cases n with
      | zero => exact .nil
      | succ n => exact .cons h1 (h2.take n)
theorem RepL.drop : ∀ {ds : List D} {vs : List V}, RepL K cl G vs ds → ∀ (n : Nat), RepL K cl G (vs.drop n) (ds.drop n)
  | [], _, h, n => by cases h; simp only [List.drop_nil]; exact .nil
  | e :: ds, _, h, n => by
    cases h with
    | cons h1 h2 =>
      cases n with
      | zero => exact .cons h1 h2
      | succ n => exact h2.drop n
theorem RepL.ints : ∀ {ns : List Int} {vs : List V}, RepL K cl G vs (ns.map D.int) → vs = ns.map V.int
  | [], _, h => by cases h; rfl
  | n :: ns, _, h => by
    cases h with
    | cons h1 h2 =>
      cases h1
      rw [RepL.ints h2]; rfl
theorem RepL.of_ints : ∀ (ns : List Int), RepL K cl G (ns.map V.int) (ns.map D.int)
  | [] => .nil
  | n :: ns => .cons (.int n) (RepL.of_ints ns)
end

/-! ### slots -/
inductive Sl where
  | un | val (d : D) | own (d : D) | rf (d : D) | exc (c : Str) (ns : List Str) (ds : List D)
abbrev DEnv := List Sl

/-- what an owned object at a holds -/
def Own (K : PySem.W.Frag) (cl : Cw) (H G : Hp) (a : Addr) : D → Prop
  | .lst ds => ∃ xs, H a = some (.lst xs) ∧ RepL K cl G xs ds
  | .dct ks ds => ∃ xs, H a = some (.dK (ks.zip xs)) ∧ ks.length = xs.length ∧ RepL K cl G xs ds
  | .ins c ns ds => ∃ C dx xs, H a = some (.ins C dx (ns.zip xs)) ∧ ns.length = xs.length ∧ cl c = some C ∧ RepL K cl G xs ds
  | _ => False
theorem Own.ex {K : PySem.W.Frag} {cl : Cw} {H G : Hp} {a : Addr} {d : D} (h : Own K cl H G a d) : ∃ o, H a = some o := by
  cases d with
  | lst ds => obtain ⟨xs, e, _⟩ := h; exact ⟨_, e⟩
  | dct ks ds => obtain ⟨xs, e, _⟩ := h; exact ⟨_, e⟩
  | ins c ns ds => obtain ⟨C, dx, xs, e, _⟩ := h; exact ⟨_, e⟩
  | _ => exact h.elim
theorem Own.mono {K : PySem.W.Frag} {cl : Cw} {H H' G G' : Hp} {a : Addr} {d : D} (h : Own K cl H G a d) (s : Sub G G') (e : ∀ o, H a = some o → H' a = some o) : Own K cl H' G' a d := by
  cases d with
  | lst ds => obtain ⟨xs, q, r⟩ := h; exact ⟨xs, e _ q, r.mono s⟩
  | dct ks ds => obtain ⟨xs, q, l, r⟩ := h; exact ⟨xs, e _ q, l, r.mono s⟩
  | ins c ns ds => obtain ⟨C, dx, xs, q, l, c, r⟩ := h; exact ⟨C, dx, xs, e _ q, l, c, r.mono s⟩
  | _ => exact h.elim

/-- what a slot says: hx is the exception at hand (its address, its own dict) -/
def SlOk (K : PySem.W.Frag) (cl : Cw) (hx : Addr × Option Addr) (H0 H G : Hp) (x : Option V) : Sl → Prop
  | .un => True
  | .val d => ∃ v, x = some v ∧ Rep K cl G v d
  | .own d => ∃ a, x = some (.ref a) ∧ G a = none ∧ H0 a = none ∧ Own K cl H G a d
  | .rf d => ∃ a, x = some (.ref a) ∧ G a = none ∧ Own K cl H G a d
  | .exc c ns ds => x = some (.ref hx.1) ∧ ((ns = [] ∧ ds = [] ∧ hx.2 = none) ∨ ∃ dd xs vs, hx.2 = some dd ∧ G dd = some (.xd xs) ∧ RepL K cl G vs ds ∧ ns.length = vs.length ∧ (∀ n v, (n, v) ∈ ns.zip vs → xs.lookup n = some v) ∧ ns ≠ [])
def isO : Sl → Bool
  | .own _ => true
  | .rf _ => true
  | _ => false

/-- the state: R the by-reference parameters (slot, address), H0 G0 the entry -/
structure Ok (K : PySem.W.Frag) (cl : Cw) (hx : Addr × Option Addr) (R : List (Nat × Addr)) (H0 G0 H G : Hp) (σ : L2.St) (δ : DEnv) : Prop where
  len : σ.length = δ.length
  sub : Sub G H
  ext : Sub G0 G
  new : ∀ b o, G b = some o → G0 b = some o ∨ H0 b = none
  kept : ∀ b o, H0 b = some o → (∀ p ∈ R, p.2 ≠ b) → H b = some o
  rfree : ∀ p ∈ R, H0 p.2 ≠ none ∧ G p.2 = none
  sl : ∀ (i : Nat) (s : Sl) (x : Option V), δ[i]? = some s → σ[i]? = some x → SlOk K cl hx H0 H G x s
  sep : ∀ (i j : Nat) (s t : Sl) (a : Addr), δ[i]? = some s → δ[j]? = some t → isO s = true → isO t = true → σ[i]? = some (some (.ref a)) → σ[j]? = some (some (.ref a)) → i = j
  refs : ∀ p ∈ R, ∃ d, δ[p.1]? = some (.rf d) ∧ σ[p.1]? = some (some (.ref p.2))
  rfs : ∀ (i : Nat) (d : D), δ[i]? = some (.rf d) → ∃ p ∈ R, p.1 = i

/-- new objects alone: nothing that is tracked changes -/
structure Grow (H G H' G' : Hp) : Prop where
  hk : Sub H H'
  gk : Sub G G'
  sub : Sub G' H'
  gn : ∀ b o, G' b = some o → G b = some o ∨ H b = none
theorem Grow.refl {H G : Hp} (s : Sub G H) : Grow H G H G := ⟨.refl H, .refl G, s, fun _ _ h => .inl h⟩
theorem Grow.trans {H G H1 G1 H2 G2 : Hp} (a : Grow H G H1 G1) (b : Grow H1 G1 H2 G2) : Grow H G H2 G2 := by
  refine ⟨a.hk.trans b.hk, a.gk.trans b.gk, b.sub, fun c o h => ?_⟩
  rcases b.gn c o h with h | h
  · exact a.gn c o h
  · refine .inr ?_
    cases e : H c with
    | none => rfl
    | some u => rw [a.hk c u e] at h; cases h
/-- a new frozen object -/
theorem Grow.froze {H G : Hp} (s : Sub G H) {p : Addr} (np : H p = none) (o : HO) : Grow H G (upd H p o) (upd G p o) := by
  have ng : G p = none := by
    cases e : G p with
    | none => rfl
    | some u => rw [s p u e] at np; cases np
  refine ⟨fun b u e => by rw [upd_ne (ne_of_none e np)]; exact e, fun b u e => by rw [upd_ne (ne_of_none e ng)]; exact e, fun b u e => ?_, fun b u e => ?_⟩
  · by_cases h : b = p
    · subst h; rw [upd_same] at e ⊢; exact e
    · rw [upd_ne h] at e ⊢; exact s b u e
  · by_cases h : b = p
    · subst h; exact .inr np
    · rw [upd_ne h] at e; exact .inl e
/-- a new object that is not frozen -/
theorem Grow.fresh {H G : Hp} (s : Sub G H) {p : Addr} (np : H p = none) (o : HO) : Grow H G (upd H p o) G :=
  ⟨fun b u e => by rw [upd_ne (ne_of_none e np)]; exact e, .refl G, fun b u e => by rw [upd_ne (ne_of_none (s b u e) np)]; exact s b u e, fun b u e => .inl e⟩

section
variable {K : PySem.W.Frag} {cl : Cw} {hx : Addr × Option Addr} {R : List (Nat × Addr)} {H0 G0 H G H' G' : Hp} {σ : L2.St} {δ : DEnv}
theorem SlOk.ex {x : Option V} {s : Sl} (h : SlOk K cl hx H0 H G x s) (o : isO s = true) : ∃ a d, x = some (.ref a) ∧ G a = none ∧ Own K cl H G a d ∧ (s = .own d ∨ s = .rf d) := by
  cases s with
  | own d => obtain ⟨a, e, g, _, w⟩ := h; exact ⟨a, d, e, g, w, .inl rfl⟩
  | rf d => obtain ⟨a, e, g, w⟩ := h; exact ⟨a, d, e, g, w, .inr rfl⟩
  | un => cases o
  | val d => cases o
  | exc c ns ds => cases o
theorem SlOk.grow {x : Option V} {s : Sl} (h : SlOk K cl hx H0 H G x s) (g : Grow H G H' G') : SlOk K cl hx H0 H' G' x s := by
  have keep : ∀ {a d}, G a = none → Own K cl H G a d → G' a = none := fun {a d} ga w => by
    obtain ⟨o, ho⟩ := w.ex
    cases e : G' a with
    | none => rfl
    | some u =>
      rcases g.gn a u e with z | z
      · rw [ga] at z; cases z
      · rw [ho] at z; cases z
  cases s with
  | un => trivial
  | val d => obtain ⟨v, e, r⟩ := h; exact ⟨v, e, r.mono g.gk⟩
  | own d => obtain ⟨a, e, ga, h0, w⟩ := h; exact ⟨a, e, keep ga w, h0, w.mono g.gk fun o => g.hk a o⟩
  | rf d => obtain ⟨a, e, ga, w⟩ := h; exact ⟨a, e, keep ga w, w.mono g.gk fun o => g.hk a o⟩
  | exc c ns ds =>
    obtain ⟨e, h⟩ := h
    rcases h with h | ⟨dd, xs, vs, e1, e2, e3, e4⟩
    · exact ⟨e, .inl h⟩
    · exact ⟨e, .inr ⟨dd, xs, vs, e1, g.gk _ _ e2, e3.mono g.gk, e4⟩⟩
theorem Ok.grow (k : Ok K cl hx R H0 G0 H G σ δ) (g : Grow H G H' G') : Ok K cl hx R H0 G0 H' G' σ δ where
  len := k.len
  sub := g.sub
  ext := k.ext.trans g.gk
  new := fun b o e => by
    rcases g.gn b o e with z | z
    · exact k.new b o z
    · by_cases hb : ∃ p ∈ R, p.2 = b
      · obtain ⟨p, hp, rfl⟩ := hb
        obtain ⟨d, e1, e2⟩ := k.refs p hp
        obtain ⟨a, q, _, w⟩ := k.sl _ _ _ e1 e2
        cases q
        obtain ⟨u, hu⟩ := w.ex
        rw [z] at hu; cases hu
      · refine .inr ?_
        cases q : H0 b with
        | none => rfl
        | some u =>
          have := k.kept b u q fun p hp e => hb ⟨p, hp, e⟩
          rw [z] at this; cases this
  kept := fun b o e hR => g.hk b o (k.kept b o e hR)
  rfree := fun p hp => by
    refine ⟨(k.rfree p hp).1, ?_⟩
    obtain ⟨d, e1, e2⟩ := k.refs p hp
    obtain ⟨a, q, ga, w⟩ := (k.sl _ _ _ e1 e2).grow g
    cases q
    exact ga
  sl := fun i s x e1 e2 => (k.sl i s x e1 e2).grow g
  sep := k.sep
  refs := k.refs
  rfs := k.rfs
end
end DL

set_option maxRecDepth 100000
set_option maxHeartbeats 4000000
namespace DL
open PySem PySem.Spec PyProof.Rows L2

/-! ### outcomes -/
inductive EO (α : Type) where
  | ok (a : α) (δ : DEnv) | ex (c : Str) (ns : List Str) (ds : List D) (δ : DEnv) | st
def EO.bind {α β : Type} (o : EO α) (k : α → DEnv → EO β) : EO β := match o with
  | .ok a δ => k a δ
  | .ex c ns ds δ => .ex c ns ds δ
  | .st => .st
abbrev DE := DEnv → EO D
abbrev DT := DEnv → EO Bool
inductive AV where
  | v (d : D) | r (j : Nat)
abbrev DA := DEnv → EO (List AV)
inductive SO where
  | nx (δ : DEnv) | rt (d : D) (δ : DEnv) | ro (d : D) (δ : DEnv) | bk (δ : DEnv) | ct (δ : DEnv) | ex (c : Str) (ns : List Str) (ds : List D) (δ : DEnv) | st
abbrev DS := DEnv → SO

/-- an exception of the class named c with these fields -/
def XOk (K : PySem.W.Frag) (cl : Cw) (G : Hp) (c : Str) (ns : List Str) (ds : List D) (cls : Value) (dd : Option Addr) : Prop :=
  ∃ C, cls = .ref C ∧ cl c = some C ∧ ((ns = [] ∧ ds = [] ∧ dd = none) ∨ ∃ dx xs vs, dd = some dx ∧ G dx = some (.xd xs) ∧ RepL K cl G vs ds ∧ ns.length = vs.length ∧ (∀ n v, (n, v) ∈ ns.zip vs → xs.lookup n = some v) ∧ ns ≠ [])
theorem XOk.mono {K : PySem.W.Frag} {cl : Cw} {G G' : Hp} {c : Str} {ns : List Str} {ds : List D} {cls : Value} {dd : Option Addr} (h : XOk K cl G c ns ds cls dd) (s : Sub G G') : XOk K cl G' c ns ds cls dd := by
  obtain ⟨C, e, q, h⟩ := h
  refine ⟨C, e, q, ?_⟩
  rcases h with h | ⟨dx, xs, vs, e1, e2, e3, e4, e5⟩
  · exact .inl h
  · exact .inr ⟨dx, xs, vs, e1, s _ _ e2, e3.mono s, e4, e5⟩

/-- the fixed part of a state -/
structure Fx where
  K : PySem.W.Frag
  cl : Cw
  hx : Addr × Option Addr
  R : List (Nat × Addr)
  H0 : Hp
  G0 : Hp
abbrev Fx.Ok (f : Fx) (H G : Hp) (σ : L2.St) (δ : DEnv) : Prop := DL.Ok f.K f.cl f.hx f.R f.H0 f.G0 H G σ δ

def EPost {α β : Type} (f : Fx) (W : WX) (σ : L2.St) (rel : Hp → β → α → Prop) (G : Hp) (o : EO α) (Q : β → Hp → Prop) : Prop := match o with
  | .ok a δ => ∀ b H' G', Sub G G' → f.Ok H' G' σ δ → rel G' b a → Q b H'
  | .ex c ns ds δ => ∀ cls dd H' G', Sub G G' → f.Ok H' G' σ δ → XOk f.K f.cl G' c ns ds cls dd → W cls dd σ H'
  | .st => False
theorem EPost.weak {α β : Type} {f : Fx} {W : WX} {σ : L2.St} {rel : Hp → β → α → Prop} {G G' : Hp} {o : EO α} {Q : β → Hp → Prop} (s : Sub G G') (h : EPost f W σ rel G o Q) : EPost f W σ rel G' o Q := by
  cases o with
  | ok a δ => exact fun b H' G'' s' k r => h b H' G'' (s.trans s') k r
  | ex c ns ds δ => exact fun cls dd H' G'' s' k x => h cls dd H' G'' (s.trans s') k x
  | st => exact h
theorem EPost.imp {α β : Type} {f : Fx} {W : WX} {σ : L2.St} {rel : Hp → β → α → Prop} {G : Hp} {o : EO α} {Q Q' : β → Hp → Prop} (h : EPost f W σ rel G o Q) (q : ∀ b H, Q b H → Q' b H) : EPost f W σ rel G o Q' := by
  cases o with
  | ok a δ => exact fun b H' G'' s' k r => q _ _ (h b H' G'' s' k r)
  | ex c ns ds δ => exact h
  | st => exact h
/-- one after the other -/
theorem EPost.bind {α β γ ε : Type} {f : Fx} {W : WX} {σ : L2.St} {rel : Hp → β → α → Prop} {rel2 : Hp → ε → γ → Prop} {G : Hp} {o : EO α} {k : α → DEnv → EO γ} {Q : ε → Hp → Prop} (h : EPost f W σ rel2 G (o.bind k) Q) :
    EPost f W σ rel G o (fun b H1 => ∃ G1 a δ1, Sub G G1 ∧ f.Ok H1 G1 σ δ1 ∧ rel G1 b a ∧ EPost f W σ rel2 G1 (k a δ1) Q) := by
  cases o with
  | ok a δ => exact fun b H' G' s k' r => ⟨G', a, δ, s, k', r, EPost.weak s h⟩
  | ex c ns ds δ => exact h
  | st => exact h
def relD (K : PySem.W.Frag) (cl : Cw) (G : Hp) (v : V) (d : D) : Prop := Rep K cl G v d
def relB (_ : Hp) (a b : Bool) : Prop := a = b
def AvOk (K : PySem.W.Frag) (cl : Cw) (σ : L2.St) (G : Hp) (v : V) : AV → Prop
  | .v d => Rep K cl G v d
  | .r j => σ[j]? = some (some v)
inductive AvL (K : PySem.W.Frag) (cl : Cw) (σ : L2.St) (G : Hp) : List V → List AV → Prop
  | nil : AvL K cl σ G [] []
  | cons {v : V} {vs : List V} {a : AV} {as : List AV} : AvOk K cl σ G v a → AvL K cl σ G vs as → AvL K cl σ G (v :: vs) (a :: as)
theorem AvOk.mono {K : PySem.W.Frag} {cl : Cw} {σ : L2.St} {G G' : Hp} {v : V} {a : AV} (s : Sub G G') (h : AvOk K cl σ G v a) : AvOk K cl σ G' v a := by
  cases a with
  | v d => exact Rep.mono s h
  | r j => exact h
theorem AvL.mono {K : PySem.W.Frag} {cl : Cw} {σ : L2.St} {G G' : Hp} (s : Sub G G') : ∀ {vs : List V} {as : List AV}, AvL K cl σ G vs as → AvL K cl σ G' vs as
  | _, _, .nil => .nil
  | _, _, .cons h t => .cons (h.mono s) (AvL.mono s t)

/-! ### the judgements -/
/-- where one stands: the wish, the classes by name, the exception at hand -/
structure Cf where
  W : WX
  cl : Cw
  hx : Addr × Option Addr
abbrev Cf.fx (c : Cf) (X : Cx) (R : List (Nat × Addr)) (H0 G0 : Hp) : Fx := ⟨X.K, c.cl, c.hx, R, H0, G0⟩
def tE (X : Cx) (e : Expr) : TE := fun σ H Q => ∀ pins s, Inv X pins σ H s → wpAny (model X.prog X.w) X.A (eval e X.env) (EP X pins σ Q) X.xe s
def tT (X : Cx) (e : Expr) : TT := fun σ H Q => ∀ pins s, Inv X pins σ H s → wpAny (model X.prog X.w) X.A (isTrue e X.env (eval e X.env)) (TP X pins σ Q) X.xe s
def tW (X : Cx) (e : Expr) : TT := fun σ H Q => ∀ whole pins s, Inv X pins σ H s → wpAny (model X.prog X.w) X.A (isTrue e X.env whole) (TP X pins σ Q) X.xe s
def tA (X : Cx) (es : List Expr) : TA := fun σ H Q => ∀ pos pins s, Inv X pins σ H s → wpAny (model X.prog X.w) X.A (spliced (backTo pos (starEach es X.env))) (AP X pins σ Q) X.xe s
def tS (X : Cx) (st : Stmt) : TS := fun D σ H => ∀ pins s, Inv X pins σ H s → wpAny (model X.prog X.w) X.A (exec st X.env) (SP X pins D) X.xe s
def tSs (X : Cx) (st : List Stmt) : TS := fun D σ H => ∀ pins s, Inv X pins σ H s → wpAny (model X.prog X.w) X.A (execs st X.env) (SP X pins D) X.xe s
theorem peS (X : Cx) (e : Expr) : PE X e (tE X e) := ⟨fun pins s _ _ _ I h => h pins s I⟩
theorem ptS (X : Cx) (e : Expr) : PT X e (tT X e) := ⟨fun pins s _ _ _ I h => h pins s I⟩
theorem pwS (X : Cx) (e : Expr) : PW X e (tW X e) := ⟨fun wh pins s _ _ _ I h => h wh pins s I⟩
theorem paS (X : Cx) (es : List Expr) : PA X es (tA X es) := ⟨fun pos pins s _ _ _ I h => h pos pins s I⟩
theorem psS (X : Cx) (st : Stmt) : PS X st (tS X st) := ⟨fun pins s _ _ _ I h => h pins s I⟩
theorem pssS (X : Cx) (st : List Stmt) : PSs X st (tSs X st) := ⟨fun pins s _ _ _ I h => h pins s I⟩

def JE (c : Cf) (X : Cx) (e : Expr) (F : DE) : Prop := ∀ (R : List (Nat × Addr)) (H0 G0 H G : Hp) (σ : L2.St) (δ : DEnv) (Q : VK), (c.fx X R H0 G0).Ok H G σ δ → EPost (c.fx X R H0 G0) c.W σ (relD X.K c.cl) G (F δ) Q → tE X e σ H Q
def JT (c : Cf) (X : Cx) (e : Expr) (F : DT) : Prop := ∀ (R : List (Nat × Addr)) (H0 G0 H G : Hp) (σ : L2.St) (δ : DEnv) (Q : Bool → Hp → Prop), (c.fx X R H0 G0).Ok H G σ δ → EPost (c.fx X R H0 G0) c.W σ relB G (F δ) Q → tT X e σ H Q
def JW (c : Cf) (X : Cx) (e : Expr) (F : DT) : Prop := ∀ (R : List (Nat × Addr)) (H0 G0 H G : Hp) (σ : L2.St) (δ : DEnv) (Q : Bool → Hp → Prop), (c.fx X R H0 G0).Ok H G σ δ → EPost (c.fx X R H0 G0) c.W σ relB G (F δ) Q → tW X e σ H Q
def JA (c : Cf) (X : Cx) (es : List Expr) (F : DA) : Prop := ∀ (R : List (Nat × Addr)) (H0 G0 H G : Hp) (σ : L2.St) (δ : DEnv) (Q : List V → Hp → Prop), (c.fx X R H0 G0).Ok H G σ δ → EPost (c.fx X R H0 G0) c.W σ (AvL X.K c.cl σ) G (F δ) Q → tA X es σ H Q

/-! ### slots read -/
section
variable {K : PySem.W.Frag} {cl : Cw} {hx : Addr × Option Addr} {R : List (Nat × Addr)} {H0 G0 H G : Hp} {σ : L2.St} {δ : DEnv}
theorem Ok.at (k : Ok K cl hx R H0 G0 H G σ δ) {i : Nat} {s : Sl} (e : δ[i]? = some s) : ∃ x, σ[i]? = some x ∧ SlOk K cl hx H0 H G x s := by
  have hi : i < σ.length := by
    rw [k.len]
    exact (List.getElem?_eq_some_iff.mp e).1
  exact ⟨σ[i], List.getElem?_eq_getElem hi, k.sl i s _ e (List.getElem?_eq_getElem hi)⟩
theorem Own.froze {a : Addr} {d : D} (g : Sub G H) (ga : G a = none) (w : Own K cl H G a d) : ∃ o, H a = some o ∧ Rep K cl (upd G a o) (.ref a) d := by
  have m : ∀ o, Sub G (upd G a o) := fun o b u e => by rw [upd_ne (ne_of_none e ga)]; exact e
  cases d with
  | lst ds => obtain ⟨xs, e, r⟩ := w; exact ⟨_, e, .lst upd_same (r.mono (m _))⟩
  | dct ks ds => obtain ⟨xs, e, l, r⟩ := w; exact ⟨_, e, .dct upd_same l (r.mono (m _))⟩
  | ins c ns ds => obtain ⟨C, dx, xs, e, l, q, r⟩ := w; exact ⟨_, e, .ins upd_same l q (r.mono (m _))⟩
  | _ => exact w.elim
/-- an owned object is frozen -/
theorem Ok.freeze (k : Ok K cl hx R H0 G0 H G σ δ) {i : Nat} {d : D} (e : δ[i]? = some (.own d)) :
    ∃ a G', σ[i]? = some (some (.ref a)) ∧ Sub G G' ∧ Rep K cl G' (.ref a) d ∧ Ok K cl hx R H0 G0 H G' σ (δ.set i (.val d)) := by
  obtain ⟨x, ex, a, rfl, ga, h0, w⟩ := k.at e
  obtain ⟨o, ho, r⟩ := w.froze k.sub ga
  have hi : i < δ.length := (List.getElem?_eq_some_iff.mp e).1
  have m : Sub G (upd G a o) := fun b u e => by rw [upd_ne (ne_of_none e ga)]; exact e
  have neR : ∀ p ∈ R, p.2 ≠ a := fun p hp z => by
    obtain ⟨d', e1, e2⟩ := k.refs p hp
    have := k.sep p.1 i _ _ a e1 e rfl rfl (by rw [e2, z]) ex
    rw [this, e] at e1; cases e1
  refine ⟨a, upd G a o, ex, m, r, ?_⟩
  refine ⟨by rw [List.length_set]; exact k.len, fun b u q => ?_, k.ext.trans m, fun b u q => ?_, k.kept, fun p hp => ⟨(k.rfree p hp).1, by rw [upd_ne (neR p hp)]; exact (k.rfree p hp).2⟩, fun j s x e1 e2 => ?_, fun j l s t b e1 e2 i1 i2 s1 s2 => ?_, fun p hp => ?_, fun j d' e1 => ?_⟩
  · by_cases hb : b = a
    · subst hb; rw [upd_same] at q; cases q; exact ho
    · rw [upd_ne hb] at q; exact k.sub b u q
  · by_cases hb : b = a
    · subst hb; exact .inr h0
    · rw [upd_ne hb] at q; exact k.new b u q
  · by_cases hj : j = i
    · subst hj
      rw [List.getElem?_set_self hi] at e1
      cases e1
      rw [ex] at e2; cases e2
      exact ⟨_, rfl, r⟩
    · rw [List.getElem?_set_ne (Ne.symm hj)] at e1
      have q := k.sl j s x e1 e2
      have ne : ∀ b, x = some (.ref b) → isO s = true → b ≠ a := fun b hb hs z => by
        subst z; subst hb
        exact hj (k.sep j i _ _ _ e1 e hs rfl e2 ex)
      cases s with
      | un => trivial
      | val d => obtain ⟨v, q1, q2⟩ := q; exact ⟨v, q1, q2.mono m⟩
      | own d => obtain ⟨b, q1, q2, q3, q4⟩ := q; exact ⟨b, q1, by rw [upd_ne (ne b q1 rfl)]; exact q2, q3, q4.mono m fun _ z => z⟩
      | rf d => obtain ⟨b, q1, q2, q4⟩ := q; exact ⟨b, q1, by rw [upd_ne (ne b q1 rfl)]; exact q2, q4.mono m fun _ z => z⟩
      | exc c ns ds => exact ⟨q.1, q.2.imp id fun ⟨dd, xs, vs, q1, q2, q3, q4⟩ => ⟨dd, xs, vs, q1, m _ _ q2, q3.mono m, q4⟩⟩
  · have h1 : j ≠ i := fun z => by subst z; rw [List.getElem?_set_self hi] at e1; cases e1; cases i1
    have h2 : l ≠ i := fun z => by subst z; rw [List.getElem?_set_self hi] at e2; cases e2; cases i2
    rw [List.getElem?_set_ne (Ne.symm h1)] at e1
    rw [List.getElem?_set_ne (Ne.symm h2)] at e2
    exact k.sep j l s t b e1 e2 i1 i2 s1 s2
  · obtain ⟨d', e1, e2⟩ := k.refs p hp
    have : p.1 ≠ i := fun z => by rw [z, e] at e1; cases e1
    exact ⟨d', by rw [List.getElem?_set_ne (Ne.symm this)]; exact e1, e2⟩
  · by_cases hj : j = i
    · subst hj
      rw [List.getElem?_set_self hi] at e1; cases e1
    · rw [List.getElem?_set_ne (Ne.symm hj)] at e1
      exact k.rfs j d' e1
end

/-! ### names and constants -/
def dVar (i : Nat) : DE := fun δ => match δ[i]? with
  | some (.val d) => .ok d δ
  | some (.own d) => .ok d (δ.set i (.val d))
  | _ => .st
def dC (d : D) : DE := fun δ => .ok d δ
section
variable {c : Cf} {X : Cx} {a b : Expr} {fa fb : DE} {pos : Pos}
theorem je_of {e : Expr} {t : TE} {F : DE} (p : PE X e t) (h : ∀ (R : List (Nat × Addr)) (H0 G0 H G : Hp) (σ : L2.St) (δ : DEnv) (Q : VK), (c.fx X R H0 G0).Ok H G σ δ → EPost (c.fx X R H0 G0) c.W σ (relD X.K c.cl) G (F δ) Q → t σ H Q) : JE c X e F :=
  fun R H0 G0 H G σ δ Q k h' pins s I => p.run pins s σ H Q I (h R H0 G0 H G σ δ Q k h')
theorem jt_of {e : Expr} {t : TT} {F : DT} (p : PT X e t) (h : ∀ (R : List (Nat × Addr)) (H0 G0 H G : Hp) (σ : L2.St) (δ : DEnv) (Q : Bool → Hp → Prop), (c.fx X R H0 G0).Ok H G σ δ → EPost (c.fx X R H0 G0) c.W σ relB G (F δ) Q → t σ H Q) : JT c X e F :=
  fun R H0 G0 H G σ δ Q k h' pins s I => p.run pins s σ H Q I (h R H0 G0 H G σ δ Q k h')
theorem jw_of {e : Expr} {t : TT} {F : DT} (p : PW X e t) (h : ∀ (R : List (Nat × Addr)) (H0 G0 H G : Hp) (σ : L2.St) (δ : DEnv) (Q : Bool → Hp → Prop), (c.fx X R H0 G0).Ok H G σ δ → EPost (c.fx X R H0 G0) c.W σ relB G (F δ) Q → t σ H Q) : JW c X e F :=
  fun R H0 G0 H G σ δ Q k h' wh pins s I => p.run wh pins s σ H Q I (h R H0 G0 H G σ δ Q k h')
theorem ja_of {es : List Expr} {t : TA} {F : DA} (p : PA X es t) (h : ∀ (R : List (Nat × Addr)) (H0 G0 H G : Hp) (σ : L2.St) (δ : DEnv) (Q : List V → Hp → Prop), (c.fx X R H0 G0).Ok H G σ δ → EPost (c.fx X R H0 G0) c.W σ (AvL X.K c.cl σ) G (F δ) Q → t σ H Q) : JA c X es F :=
  fun R H0 G0 H G σ δ Q k h' pos pins s I => p.run pos pins s σ H Q I (h R H0 G0 H G σ δ Q k h')

theorem je_var {i : Nat} (p : PE X a (tVar i)) : JE c X a (dVar i) := by
  refine je_of p fun R H0 G0 H G σ δ Q k h => ?_
  unfold dVar at h
  cases e : δ[i]? with
  | none => rw [e] at h; exact h.elim
  | some s =>
    rw [e] at h
    cases s with
    | val d =>
      obtain ⟨x, ex, v, rfl, r⟩ := k.at e
      exact ⟨v, ex, h v H G (.refl G) k r⟩
    | own d =>
      obtain ⟨a, G', ex, sg, r, k'⟩ := k.freeze e
      exact ⟨.ref a, ex, h (.ref a) H G' sg k' r⟩
    | un => exact h.elim
    | rf d => exact h.elim
    | exc c ns ds => exact h.elim
theorem je_c {d : D} {v : V} (p : PE X a (tC v)) (r : ∀ G, Rep X.K c.cl G v d) : JE c X a (dC d) :=
  je_of p fun R H0 G0 H G σ δ Q k h => h v H G (.refl G) k (r G)
theorem je_int {i : Int} {j : Nat} : JE c X (.Constant (.int i) j pos) (dC (.int i)) := je_c pe_int fun _ => .int i
theorem je_bl {i : Bool} {j : Nat} : JE c X (.Constant (.bool i) j pos) (dC (.bl i)) := je_c pe_bl fun _ => .bl i
theorem je_non {j : Nat} : JE c X (.Constant .none j pos) (dC .non) := je_c pe_non fun _ => .non
/-! ### operators -/
def dBin (g : D → D → Option D) (fa fb : DE) : DE := fun δ => (fa δ).bind fun x δ1 => (fb δ1).bind fun y δ2 => match g x y with
  | some z => .ok z δ2
  | none => .st
/-- r serves g -/
def BinOk (K : PySem.W.Frag) (cl : Cw) (r : R2) (g : D → D → Option D) : Prop :=
  ∀ (H G : Hp) (x y : V) (d e z : D) (Q : VK), Sub G H → Rep K cl G x d → Rep K cl G y e → g d e = some z → (∀ v H' G', Grow H G H' G' → Rep K cl G' v z → Q v H') → r x y H Q
theorem bin_ok {r : R2} {g : D → D → Option D} (hg : BinOk X.K c.cl r g) (ha : JE c X a fa) (hb : JE c X b fb) {R : List (Nat × Addr)} {H0 G0 H G : Hp} {σ : L2.St} {δ : DEnv} {Q : VK} (k : (c.fx X R H0 G0).Ok H G σ δ)
    (h : EPost (c.fx X R H0 G0) c.W σ (relD X.K c.cl) G (dBin g fa fb δ) Q) : tOp r (tE X a) (tE X b) σ H Q := by
  refine ha R H0 G0 H G σ δ _ k (EPost.imp (EPost.bind h) fun x H1 ⟨G1, d, δ1, s1, k1, r1, h1⟩ => ?_)
  refine hb R H0 G0 H1 G1 σ δ1 _ k1 (EPost.imp (EPost.bind h1) fun y H2 ⟨G2, e, δ2, s2, k2, r2, h2⟩ => ?_)
  cases q : g d e with
  | none => rw [q] at h2; exact h2.elim
  | some z =>
    rw [q] at h2
    exact hg H2 G2 x y d e z Q k2.sub (Rep.mono s2 r1) r2 q fun v H' G' gr rv => h2 v H' G' gr.gk (k2.grow gr) rv
theorem je_op {op : Operator} {r : R2} {g : D → D → Option D} (ho : OpR X (binaryOp op) r) (hg : BinOk X.K c.cl r g) (ha : JE c X a fa) (hb : JE c X b fb) : JE c X (.BinOp a op b pos) (dBin g fa fb) :=
  je_of (pe_op ho (peS X a) (peS X b)) fun R H0 G0 H G σ δ Q k h => bin_ok hg ha hb k h
theorem je_cmp {op : CmpOp} {r : R2} {g : D → D → Option D} (ho : OpR X (compareOp op) r) (hg : BinOk X.K c.cl r g) (ha : JE c X a fa) (hb : JE c X b fb) (hm : behindInMarks op b = false) : JE c X (.Compare a [op] [b] pos) (dBin g fa fb) :=
  je_of (pe_cmpR ho (peS X a) (peS X b) hm) fun R H0 G0 H G σ δ Q k h => bin_ok hg ha hb k h
/-- as a test -/
def dTest (fa : DE) : DT := fun δ => (fa δ).bind fun x δ1 => match x with
  | .bl b => .ok b δ1
  | _ => .st
theorem test_ok {R : List (Nat × Addr)} {H0 G0 G : Hp} {σ : L2.St} {o : EO D} {Q : Bool → Hp → Prop}
    (h : EPost (c.fx X R H0 G0) c.W σ relB G (o.bind fun x δ1 => match x with | .bl b => .ok b δ1 | _ => .st) Q) : EPost (c.fx X R H0 G0) c.W σ (relD X.K c.cl) G o (fun x H1 => ∃ k, x = .bl k ∧ Q k H1) := by
  refine EPost.imp (EPost.bind (rel := relD X.K c.cl) h) fun x H1 ⟨G1, d, δ1, s1, k1, r1, h1⟩ => ?_
  cases d with
  | bl b =>
    cases r1
    exact ⟨b, rfl, h1 b H1 G1 (.refl G1) k1 rfl⟩
  | _ => exact h1.elim
theorem jt_cmp {op : CmpOp} {r : R2} {g : D → D → Option D} (ho : OpR X (compareOp op) r) (hg : BinOk X.K c.cl r g) (ha : JE c X a fa) (hb : JE c X b fb) (hm : behindInMarks op b = false) : JT c X (.Compare a [op] [b] pos) (dTest (dBin g fa fb)) :=
  jt_of (pt_cmpR ho (peS X a) (peS X b) hm) fun R H0 G0 H G σ δ Q k h => bin_ok hg ha hb k (test_ok h)
/-- truth -/
def dTruth : D → Option Bool
  | .non => some false
  | .bl b => some b
  | .int i => some (i != 0)
  | .str y => if y.length ≤ sizeLine then some ((y.length : Int) != 0) else none
  | .lst xs => some (!xs.isEmpty)
  | .tup xs => some (!xs.isEmpty)
  | .dct ks vs => some (!ks.isEmpty)
  | _ => none
def dTru (fa : DE) : DT := fun δ => (fa δ).bind fun x δ1 => match dTruth x with
  | some b => .ok b δ1
  | none => .st
theorem RepL.isEmpty {K : PySem.W.Frag} {cl : Cw} {G : Hp} {vs : List V} {ds : List D} (r : RepL K cl G vs ds) : vs.isEmpty = ds.isEmpty := by
  cases r <;> rfl
theorem truth_ok {K : PySem.W.Frag} {cl : Cw} {H G : Hp} (s : Sub G H) {x : V} {d : D} {b : Bool} (r : Rep K cl G x d) (e : dTruth d = some b) : TruV K x H b := by
  cases r with
  | non => cases e; exact rfl
  | bl b' => cases e; exact rfl
  | int i => cases e; exact rfl
  | str y =>
    simp only [dTruth] at e
    by_cases hl : y.length ≤ sizeLine
    · rw [if_pos hl] at e; cases e; exact ⟨hl, rfl⟩
    · rw [if_neg hl] at e; cases e
  | lst h1 h2 => cases e; exact .inl ⟨_, .inl (.inl (s _ _ h1)), by rw [h2.isEmpty]⟩
  | tup h1 h2 => cases e; exact .inr (.inl ⟨_, s.sqT h1, by rw [h2.isEmpty]⟩)
  | @dct a ks xs ds h1 hl h2 =>
    cases e
    refine .inr (.inr ⟨_, s _ _ h1, ?_⟩)
    cases ks with
    | nil => rfl
    | cons k r =>
      cases xs with
      | nil => cases hl
      | cons x t => rfl
  | ins => cases e
  | scr => cases e
  | set => cases e
  | tpn => cases e
  | rng => cases e
  | exv0 _ _ => cases e
  | exv _ _ _ _ _ _ => cases e
theorem jt_truth (ha : JE c X a fa) (he : ∀ whole, isTrue a X.env whole = (do let v ← whole; standAt a.pos; holding [v] (truthy v))) : JT c X a (dTru fa) := by
  refine jt_of (pt_truth (peS X a) he) fun R H0 G0 H G σ δ Q k h => ?_
  refine ha R H0 G0 H G σ δ _ k (EPost.imp (EPost.bind h) fun x H1 ⟨G1, d, δ1, s1, k1, r1, h1⟩ => ?_)
  cases q : dTruth d with
  | none => rw [q] at h1; exact h1.elim
  | some b =>
    rw [q] at h1
    exact ⟨b, truth_ok k1.sub r1 q, h1 b H1 G1 (.refl G1) k1 rfl⟩
end
end DL

set_option maxRecDepth 100000
set_option maxHeartbeats 4000000
namespace DL
open PySem PySem.Spec PyProof.Rows L2

/-! ### a step that changes the objects at A alone -/
structure Frm (A : List Addr) (H G H' G' : Hp) : Prop where
  gk : Sub G G'
  sub : Sub G' H'
  kept : ∀ b o, H b = some o → b ∉ A → H' b = some o
  new : ∀ b o, G' b = some o → G b = some o ∨ H b = none
/-- a slot's new content -/
def Sl.put (s : Sl) (d : D) : Sl := match s with
  | .own _ => .own d
  | .rf _ => .rf d
  | s => s
def Sl.cont : Sl → Option D
  | .own d => some d
  | .rf d => some d
  | _ => none
section
variable {K : PySem.W.Frag} {cl : Cw} {hx : Addr × Option Addr} {R : List (Nat × Addr)} {H0 G0 H G H' G' : Hp} {σ : L2.St} {δ : DEnv} {A : List Addr}
/-- behind such a step: δ' differs in the contents of owned slots alone -/
theorem Ok.frame (k : Ok K cl hx R H0 G0 H G σ δ) (f : Frm A H G H' G') {δ' : DEnv} (hl : δ'.length = δ.length)
    (hs : ∀ (i : Nat) (s : Sl), δ[i]? = some s → isO s = false → δ'[i]? = some s)
    (ho : ∀ (i : Nat) (s : Sl) (a : Addr), δ[i]? = some s → isO s = true → σ[i]? = some (some (.ref a)) → ∃ d, δ'[i]? = some (s.put d) ∧ G' a = none ∧ Own K cl H' G' a d)
    (hA : ∀ a ∈ A, ∃ (i : Nat) (s : Sl), δ[i]? = some s ∧ isO s = true ∧ σ[i]? = some (some (.ref a))) : Ok K cl hx R H0 G0 H' G' σ δ' where
  len := by rw [k.len, hl]
  sub := f.sub
  ext := k.ext.trans f.gk
  new := fun b o e => by
    rcases f.new b o e with z | z
    · exact k.new b o z
    · by_cases hb : ∃ p ∈ R, p.2 = b
      · obtain ⟨p, hp, rfl⟩ := hb
        obtain ⟨d, e1, e2⟩ := k.refs p hp
        obtain ⟨a, q, _, w⟩ := k.sl _ _ _ e1 e2
        cases q
        obtain ⟨u, hu⟩ := w.ex
        rw [z] at hu; cases hu
      · refine .inr ?_
        cases q : H0 b with
        | none => rfl
        | some u =>
          have := k.kept b u q fun p hp e => hb ⟨p, hp, e⟩
          rw [z] at this; cases this
  kept := fun b o e hR => by
    refine f.kept b o (k.kept b o e hR) fun hb => ?_
    obtain ⟨i, s, e1, e2, e3⟩ := hA b hb
    obtain ⟨a, d, q1, q2, q3, q4⟩ := (k.sl i s _ e1 e3).ex e2
    cases q1
    rcases q4 with q4 | q4
    · subst q4
      obtain ⟨a', z, _, h0, _⟩ := k.sl i _ _ e1 e3
      cases z
      rw [h0] at e; cases e
    · subst q4
      -- a by-reference parameter: its address stands in R
      obtain ⟨p, hp, z⟩ := k.rfs i d e1
      obtain ⟨d', e4, e5⟩ := k.refs p hp
      rw [z, e3] at e5
      cases e5
      exact hR p hp rfl
  rfree := fun p hp => by
    refine ⟨(k.rfree p hp).1, ?_⟩
    obtain ⟨d, e1, e2⟩ := k.refs p hp
    obtain ⟨d', _, q, _⟩ := ho p.1 _ p.2 e1 rfl e2
    exact q
  sl := fun i s x e1 e2 => by
    have hi : i < δ.length := by rw [← hl]; exact (List.getElem?_eq_some_iff.mp e1).1
    have e0 : δ[i]? = some δ[i] := List.getElem?_eq_getElem hi
    have q := k.sl i _ x e0 e2
    cases hO : isO δ[i] with
    | false =>
      have := hs i _ e0 hO
      rw [e1] at this
      cases this
      generalize δ[i] = s at q hO
      cases s with
      | un => trivial
      | val d => obtain ⟨v, q1, q2⟩ := q; exact ⟨v, q1, q2.mono f.gk⟩
      | own d => cases hO
      | rf d => cases hO
      | exc c ns ds => exact ⟨q.1, q.2.imp id fun ⟨dd, xs, vs, q1, q2, q3, q4⟩ => ⟨dd, xs, vs, q1, f.gk _ _ q2, q3.mono f.gk, q4⟩⟩
    | true =>
      obtain ⟨a, d, q1, q2, q3, q4⟩ := q.ex hO
      obtain ⟨d', z1, z2, z3⟩ := ho i _ a e0 hO (by rw [e2, q1])
      rw [e1] at z1
      cases z1
      rcases q4 with q4 | q4
      · rw [q4] at q ⊢
        obtain ⟨a', y1, y2, y3, y4⟩ := q
        rw [q1] at y1; cases y1
        exact ⟨a, q1, z2, y3, z3⟩
      · rw [q4]
        exact ⟨a, q1, z2, z3⟩
  sep := fun i j s t a e1 e2 i1 i2 s1 s2 => by
    have hi : i < δ.length := by rw [← hl]; exact (List.getElem?_eq_some_iff.mp e1).1
    have hj : j < δ.length := by rw [← hl]; exact (List.getElem?_eq_some_iff.mp e2).1
    have o1 : isO δ[i] = true := by
      cases hO : isO δ[i] with
      | true => rfl
      | false => have := hs i _ (List.getElem?_eq_getElem hi) hO; rw [e1] at this; cases this; rw [hO] at i1; cases i1
    have o2 : isO δ[j] = true := by
      cases hO : isO δ[j] with
      | true => rfl
      | false => have := hs j _ (List.getElem?_eq_getElem hj) hO; rw [e2] at this; cases this; rw [hO] at i2; cases i2
    exact k.sep i j _ _ a (List.getElem?_eq_getElem hi) (List.getElem?_eq_getElem hj) o1 o2 s1 s2
  refs := fun p hp => by
    obtain ⟨d, e1, e2⟩ := k.refs p hp
    obtain ⟨d', q, _, _⟩ := ho p.1 _ p.2 e1 rfl e2
    exact ⟨d', q, e2⟩
  rfs := fun i d e => by
    have hi : i < δ.length := by rw [← hl]; exact (List.getElem?_eq_some_iff.mp e).1
    have e0 : δ[i]? = some δ[i] := List.getElem?_eq_getElem hi
    cases hO : isO δ[i] with
    | false =>
      have z := hs i _ e0 hO
      rw [e] at z
      rw [← Option.some.inj z] at hO; cases hO
    | true =>
      obtain ⟨x, ex, q⟩ := k.at e0
      obtain ⟨a, d0, q1, q2, q3, q4⟩ := q.ex hO
      obtain ⟨d', z1, _, _⟩ := ho i _ a e0 hO (by rw [ex, q1])
      rw [e] at z1
      rcases q4 with q4 | q4
      · rw [q4] at z1; cases z1
      · rw [q4] at e0; exact k.rfs i d0 e0
/-- a slot stored -/
theorem Ok.set (k : Ok K cl hx R H0 G0 H G σ δ) {i : Nat} {v : V} {s0 s : Sl} (e0 : δ[i]? = some s0) (hn : ∀ d, s0 ≠ .rf d) (hv : SlOk K cl hx H0 H G (some v) s) (hr : ∀ d, s ≠ .rf d)
    (hsep : ∀ a, isO s = true → v = .ref a → ∀ (j : Nat) (t : Sl), δ[j]? = some t → isO t = true → σ[j]? ≠ some (some (.ref a))) : Ok K cl hx R H0 G0 H G (σ.set i (some v)) (δ.set i s) := by
  have hi : i < δ.length := (List.getElem?_eq_some_iff.mp e0).1
  have hi2 : i < σ.length := by rw [k.len]; exact hi
  have neR : ∀ p ∈ R, p.1 ≠ i := fun p hp z => by
    obtain ⟨d, e1, _⟩ := k.refs p hp
    rw [z, e0] at e1
    cases e1
    exact hn d rfl
  refine ⟨by rw [List.length_set, List.length_set]; exact k.len, k.sub, k.ext, k.new, k.kept, k.rfree, fun j t x e1 e2 => ?_, fun j l t u a e1 e2 i1 i2 s1 s2 => ?_, fun p hp => ?_, fun j d e => ?_⟩
  · by_cases hj : j = i
    · subst hj
      rw [List.getElem?_set_self hi] at e1
      rw [List.getElem?_set_self hi2] at e2
      cases e1; cases e2
      exact hv
    · rw [List.getElem?_set_ne (Ne.symm hj)] at e1 e2
      exact k.sl j t x e1 e2
  · by_cases hj : j = i
    · by_cases hl : l = i
      · rw [hj, hl]
      · subst hj
        rw [List.getElem?_set_self hi] at e1
        rw [List.getElem?_set_self hi2] at s1
        rw [List.getElem?_set_ne (Ne.symm hl)] at e2 s2
        cases e1; cases s1
        exact absurd s2 (hsep a i1 rfl l u e2 i2)
    · by_cases hl : l = i
      · subst hl
        rw [List.getElem?_set_self hi] at e2
        rw [List.getElem?_set_self hi2] at s2
        rw [List.getElem?_set_ne (Ne.symm hj)] at e1 s1
        cases e2; cases s2
        exact absurd s1 (hsep a i2 rfl j t e1 i1)
      · rw [List.getElem?_set_ne (Ne.symm hj)] at e1 s1
        rw [List.getElem?_set_ne (Ne.symm hl)] at e2 s2
        exact k.sep j l t u a e1 e2 i1 i2 s1 s2
  · obtain ⟨d, e1, e2⟩ := k.refs p hp
    exact ⟨d, by rw [List.getElem?_set_ne (Ne.symm (neR p hp))]; exact e1, by rw [List.getElem?_set_ne (Ne.symm (neR p hp))]; exact e2⟩
  · by_cases hj : j = i
    · subst hj
      rw [List.getElem?_set_self hi] at e
      cases e
      exact absurd rfl (hr d)
    · rw [List.getElem?_set_ne (Ne.symm hj)] at e
      exact k.rfs j d e
/-- the address of a new object is nobody's -/
theorem Ok.freshH0 (k : Ok K cl hx R H0 G0 H G σ δ) {p : Addr} (np : H p = none) : H0 p = none := by
  cases q : H0 p with
  | none => rfl
  | some u =>
    by_cases hb : ∃ r ∈ R, r.2 = p
    · obtain ⟨r, hr, rfl⟩ := hb
      obtain ⟨d, e1, e2⟩ := k.refs r hr
      obtain ⟨a, q, _, w⟩ := k.sl _ _ _ e1 e2
      cases q
      obtain ⟨u, hu⟩ := w.ex
      rw [np] at hu; cases hu
    · have := k.kept p u q fun r hr e => hb ⟨r, hr, e⟩
      rw [np] at this; cases this
theorem Ok.freshSl (k : Ok K cl hx R H0 G0 H G σ δ) {p : Addr} (np : H p = none) {j : Nat} {t : Sl} (e : δ[j]? = some t) (o : isO t = true) : σ[j]? ≠ some (some (.ref p)) := fun z => by
  obtain ⟨a, d, q1, q2, q3, q4⟩ := (k.sl j t _ e z).ex o
  cases q1
  obtain ⟨u, hu⟩ := q3.ex
  rw [np] at hu; cases hu
theorem Ok.freshG (k : Ok K cl hx R H0 G0 H G σ δ) {p : Addr} (np : H p = none) : G p = none := by
  cases q : G p with
  | none => rfl
  | some u => have := k.sub p u q; rw [np] at this; cases this
end

/-! ### new owned objects -/
def FPost (f : Fx) (W : WX) (σ : L2.St) (G : Hp) (o : EO D) (Q : VK) : Prop := match o with
  | .ok d δ => ∀ a H' G', Sub G G' → f.Ok H' G' σ δ → G' a = none → f.H0 a = none → Own f.K f.cl H' G' a d → (∀ (j : Nat) (t : Sl), δ[j]? = some t → isO t = true → σ[j]? ≠ some (some (.ref a))) → Q (.ref a) H'
  | .ex c ns ds δ => ∀ cls dd H' G', Sub G G' → f.Ok H' G' σ δ → XOk f.K f.cl G' c ns ds cls dd → W cls dd σ H'
  | .st => False
def JF (c : Cf) (X : Cx) (e : Expr) (F : DE) : Prop := ∀ (R : List (Nat × Addr)) (H0 G0 H G : Hp) (σ : L2.St) (δ : DEnv) (Q : VK), (c.fx X R H0 G0).Ok H G σ δ → FPost (c.fx X R H0 G0) c.W σ G (F δ) Q → tE X e σ H Q
section
variable {K : PySem.W.Frag} {cl : Cw} {hx : Addr × Option Addr} {R : List (Nat × Addr)} {H0 G0 H G H' G' : Hp} {σ : L2.St} {δ : DEnv} {A : List Addr}
/-- an owned object that no slot holds is frozen -/
theorem Ok.freezeNew (k : Ok K cl hx R H0 G0 H G σ δ) {a : Addr} {d : D} (ga : G a = none) (h0 : H0 a = none) (w : Own K cl H G a d) (hs : ∀ (j : Nat) (t : Sl), δ[j]? = some t → isO t = true → σ[j]? ≠ some (some (.ref a))) :
    ∃ G', Sub G G' ∧ Rep K cl G' (.ref a) d ∧ Ok K cl hx R H0 G0 H G' σ δ := by
  obtain ⟨o, ho, r⟩ := w.froze k.sub ga
  have m : Sub G (upd G a o) := fun b u e => by rw [upd_ne (ne_of_none e ga)]; exact e
  refine ⟨upd G a o, m, r, ⟨k.len, fun b u q => ?_, k.ext.trans m, fun b u q => ?_, k.kept, fun p hp => ?_, fun j s x e1 e2 => ?_, k.sep, k.refs, k.rfs⟩⟩
  · by_cases hb : b = a
    · subst hb; rw [upd_same] at q; cases q; exact ho
    · rw [upd_ne hb] at q; exact k.sub b u q
  · by_cases hb : b = a
    · subst hb; exact .inr h0
    · rw [upd_ne hb] at q; exact k.new b u q
  · refine ⟨(k.rfree p hp).1, ?_⟩
    obtain ⟨d', e1, e2⟩ := k.refs p hp
    have : p.2 ≠ a := fun z => hs _ _ e1 rfl (by rw [e2, z])
    rw [upd_ne this]
    exact (k.rfree p hp).2
  · have q := k.sl j s x e1 e2
    have ne : ∀ b, x = some (.ref b) → isO s = true → b ≠ a := fun b hb hO z => by
      subst z; subst hb
      exact hs j s e1 hO e2
    cases s with
    | un => trivial
    | val d => obtain ⟨v, q1, q2⟩ := q; exact ⟨v, q1, q2.mono m⟩
    | own d => obtain ⟨b, q1, q2, q3, q4⟩ := q; exact ⟨b, q1, by rw [upd_ne (ne b q1 rfl)]; exact q2, q3, q4.mono m fun _ z => z⟩
    | rf d => obtain ⟨b, q1, q2, q4⟩ := q; exact ⟨b, q1, by rw [upd_ne (ne b q1 rfl)]; exact q2, q4.mono m fun _ z => z⟩
    | exc c ns ds => exact ⟨q.1, q.2.imp id fun ⟨dd, xs, vs, q1, q2, q3, q4⟩ => ⟨dd, xs, vs, q1, m _ _ q2, q3.mono m, q4⟩⟩
end
theorem FPost.bind {α : Type} {f : Fx} {W : WX} {σ : L2.St} {rel : Hp → α → α → Prop} {β : Type} {rel' : Hp → β → α → Prop} {G : Hp} {o : EO α} {k : α → DEnv → EO D} {Q : VK} (h : FPost f W σ G (o.bind k) Q) :
    EPost f W σ rel' G o (fun b H1 => ∃ G1 a δ1, Sub G G1 ∧ f.Ok H1 G1 σ δ1 ∧ rel' G1 b a ∧ FPost f W σ G1 (k a δ1) Q) := by
  cases o with
  | ok a δ =>
    refine fun b H' G' s k' r => ⟨G', a, δ, s, k', r, ?_⟩
    have h : FPost f W σ G (k a δ) Q := h
    cases q : k a δ with
    | ok d δ' => rw [q] at h; exact fun b H' G'' s' => h b H' G'' (s.trans s')
    | ex c ns ds δ' => rw [q] at h; exact fun cls dd H' G'' s' => h cls dd H' G'' (s.trans s')
    | st => rw [q] at h; exact h
  | ex c ns ds δ => exact h
  | st => exact h
theorem JF.je {c : Cf} {X : Cx} {e : Expr} {F : DE} (h : JF c X e F) : JE c X e F := fun R H0 G0 H G σ δ Q k hp => by
  refine h R H0 G0 H G σ δ Q k ?_
  cases q : F δ with
  | ok d δ' =>
    rw [q] at hp
    intro a H' G' s k' ga h0 w hs
    obtain ⟨G2, s2, r, k2⟩ := k'.freezeNew ga h0 w hs
    exact hp (.ref a) H' G2 (s.trans s2) k2 r
  | ex c ns ds δ' => rw [q] at hp; exact hp
  | st => rw [q] at hp; exact hp

/-! ### arguments, displays -/
def dNil : DA := fun δ => .ok [] δ
def dCons (fa : DE) (fr : DA) : DA := fun δ => (fa δ).bind fun x δ1 => (fr δ1).bind fun xs δ2 => .ok (.v x :: xs) δ2
def dRef (j : Nat) (fr : DA) : DA := fun δ => (fr δ).bind fun xs δ2 => .ok (.r j :: xs) δ2
def avs : List AV → Option (List D)
  | [] => some []
  | .v d :: r => (avs r).map (d :: ·)
  | .r _ :: _ => none
section
variable {c : Cf} {X : Cx} {e : Expr} {es : List Expr} {fe : DE} {fs : DA} {pos : Pos}
theorem ja_nil : JA c X [] dNil := ja_of pa_nil fun R H0 G0 H G σ δ Q k h => h [] H G (.refl G) k .nil
theorem ja_cons (he : JE c X e fe) (hr : JA c X es fs) (hs : starEach (e :: es) X.env = (false, eval e X.env) :: starEach es X.env := by rfl) : JA c X (e :: es) (dCons fe fs) := by
  refine ja_of (pa_cons (peS X e) (paS X es) hs) fun R H0 G0 H G σ δ Q k h => ?_
  refine he R H0 G0 H G σ δ _ k (EPost.imp (EPost.bind h) fun x H1 ⟨G1, d, δ1, s1, k1, r1, h1⟩ => ?_)
  refine hr R H0 G0 H1 G1 σ δ1 _ k1 (EPost.imp (EPost.bind h1) fun xs H2 ⟨G2, ds, δ2, s2, k2, r2, h2⟩ => ?_)
  exact h2 (x :: xs) H2 G2 (.refl G2) k2 (.cons (Rep.mono s2 r1) r2)
theorem ja_ref {j : Nat} (p : PE X e (tVar j)) (hr : JA c X es fs) (hs : starEach (e :: es) X.env = (false, eval e X.env) :: starEach es X.env := by rfl) : JA c X (e :: es) (fun δ => match δ[j]? with | some s => if isO s then dRef j fs δ else .st | none => .st) := by
  refine ja_of (pa_cons p (paS X es) hs) fun R H0 G0 H G σ δ Q k h => ?_
  cases q : δ[j]? with
  | none => rw [q] at h; exact h.elim
  | some s =>
    rw [q] at h
    cases hO : isO s with
    | false => simp only [hO] at h; exact h.elim
    | true =>
      simp only [hO] at h
      obtain ⟨x, ex, w⟩ := k.at q
      obtain ⟨a, d, q1, _⟩ := w.ex hO
      subst q1
      refine ⟨.ref a, ex, ?_⟩
      refine hr R H0 G0 H G σ δ _ k (EPost.imp (EPost.bind h) fun xs H2 ⟨G2, ds, δ2, s2, k2, r2, h2⟩ => ?_)
      exact h2 (.ref a :: xs) H2 G2 (.refl G2) k2 (.cons ex r2)
theorem AvL.vals {K : PySem.W.Frag} {cl : Cw} {σ : L2.St} {G : Hp} : ∀ {vs : List V} {as : List AV} {ds : List D}, AvL K cl σ G vs as → avs as = some ds → RepL K cl G vs ds
  | _, _, _, .nil, e => by cases e; exact .nil
  | _, _, _, .cons (a := .v d) h t, e => by
    simp only [avs, Option.map_eq_some_iff] at e
    obtain ⟨ds, e1, rfl⟩ := e
    exact .cons h (AvL.vals t e1)
  | _, _, _, .cons (a := .r j) h t, e => by cases e
/-- the values of a list of expressions -/
def dVals (fs : DA) (k : List D → DEnv → EO D) : DE := fun δ => (fs δ).bind fun as δ1 => match avs as with
  | some ds => k ds δ1
  | none => .st
def dTup (fs : DA) : DE := dVals fs fun ds δ => if ds.length ≤ sizeLine then .ok (.tup ds) δ else .st
def dLst (fs : DA) : DE := dVals fs fun ds δ => if ds.length ≤ sizeLine then .ok (.lst ds) δ else .st
theorem je_tup {x1 : Nat} (h : JA c X es fs) : JE c X (.Tuple es x1 pos) (dTup fs) := by
  refine je_of (pe_tup (paS X es)) fun R H0 G0 H G σ δ Q k hp => ?_
  refine h R H0 G0 H G σ δ _ k (EPost.imp (EPost.bind hp) fun xs H1 ⟨G1, as, δ1, s1, k1, r1, h1⟩ => ?_)
  cases q : avs as with
  | none => rw [q] at h1; exact h1.elim
  | some ds =>
    rw [q] at h1
    have rl := r1.vals q
    by_cases hz : ds.length ≤ sizeLine
    · simp only [if_pos hz] at h1
      refine ⟨by rw [rl.length]; exact hz, fun p np => ?_⟩
      have g := Grow.froze k1.sub np (.tup xs)
      exact h1 (.ref p) _ _ g.gk (k1.grow g) (.tup (.inl (.inl upd_same)) (rl.mono g.gk))
    · simp only [if_neg hz] at h1; exact h1.elim
theorem jf_lst (h : JA c X es fs) : JF c X (.List es pos) (dLst fs) := fun R H0 G0 H G σ δ Q k hp pins s I => by
  refine (pe_lst (paS X es)).run pins s σ H Q I ?_
  refine h R H0 G0 H G σ δ _ k (EPost.imp (FPost.bind (rel := fun _ _ _ => True) hp) fun xs H1 ⟨G1, as, δ1, s1, k1, r1, h1⟩ => ?_)
  cases q : avs as with
  | none => rw [q] at h1; exact h1.elim
  | some ds =>
    rw [q] at h1
    have rl := r1.vals q
    by_cases hz : ds.length ≤ sizeLine
    · simp only [if_pos hz] at h1
      refine ⟨by rw [rl.length]; exact hz, fun p np => ?_⟩
      have g := Grow.fresh k1.sub np (.lst xs)
      exact h1 p _ _ g.gk (k1.grow g) (k1.freshG np) (k1.freshH0 np) ⟨xs, upd_same, rl⟩ fun j t e o => k1.freshSl np e o
    · simp only [if_neg hz] at h1; exact h1.elim
end
end DL

set_option maxRecDepth 100000
set_option maxHeartbeats 4000000
namespace DL
open PySem PySem.Spec PyProof.Rows L2

/-! ### what a def promises -/
inductive FO where
  | ret (d : D) (rs : List D) | new (d : D) (rs : List D) | ex (c : Str) (ns : List Str) (ds : List D) (rs : List D) | st
/-- the arguments: kind true: by reference -/
inductive ArgOk (K : PySem.W.Frag) (cl : Cw) (H G : Hp) : List V → List Bool → List D → Prop
  | nil : ArgOk K cl H G [] [] []
  | val {v : V} {d : D} {vs : List V} {ks : List Bool} {ds : List D} : Rep K cl G v d → ArgOk K cl H G vs ks ds → ArgOk K cl H G (v :: vs) (false :: ks) (d :: ds)
  | rf {a : Addr} {d : D} {vs : List V} {ks : List Bool} {ds : List D} : G a = none → Own K cl H G a d → ArgOk K cl H G vs ks ds → ArgOk K cl H G (.ref a :: vs) (true :: ks) (d :: ds)
/-- the addresses of the arguments by reference -/
def refA : List V → List Bool → List Addr
  | .ref a :: vs, true :: ks => a :: refA vs ks
  | _ :: vs, _ :: ks => refA vs ks
  | _, _ => []
inductive RefOk (K : PySem.W.Frag) (cl : Cw) (H G : Hp) : List Addr → List D → Prop
  | nil : RefOk K cl H G [] []
  | cons {a : Addr} {d : D} {as : List Addr} {ds : List D} : G a = none → Own K cl H G a d → RefOk K cl H G as ds → RefOk K cl H G (a :: as) (d :: ds)
/-- THE PROMISE of a def whose plain function is fn -/
def SpF (K : PySem.W.Frag) (cl : Cw) (ks : List Bool) (fn : List D → FO) : Sp := fun vs H Q E => ∃ (G : Hp) (ds : List D), Sub G H ∧ ArgOk K cl H G vs ks ds ∧ (refA vs ks).Nodup ∧
  match fn ds with
  | .ret d rs => ∀ v H' G', Frm (refA vs ks) H G H' G' → RefOk K cl H' G' (refA vs ks) rs → Rep K cl G' v d → Q v H'
  | .new d rs => ∀ a H' G', Frm (refA vs ks) H G H' G' → RefOk K cl H' G' (refA vs ks) rs → H a = none → G' a = none → Own K cl H' G' a d → Q (.ref a) H'
  | .ex c ns es rs => ∀ cls dd H' G', Frm (refA vs ks) H G H' G' → RefOk K cl H' G' (refA vs ks) rs → XOk K cl G' c ns es cls dd → E cls dd H'
  | .st => False
theorem ArgOk.length {K : PySem.W.Frag} {cl : Cw} {H G : Hp} : ∀ {vs : List V} {ks : List Bool} {ds : List D}, ArgOk K cl H G vs ks ds → vs.length = ks.length ∧ ds.length = ks.length
  | _, _, _, .nil => ⟨rfl, rfl⟩
  | _, _, _, .val _ t => ⟨congrArg (· + 1) t.length.1, congrArg (· + 1) t.length.2⟩
  | _, _, _, .rf _ _ t => ⟨congrArg (· + 1) t.length.1, congrArg (· + 1) t.length.2⟩

/-! ### calls -/
/-- the arguments' data: those by reference as the slots hold them -/
def avd (δ : DEnv) : List AV → Option (List D)
  | [] => some []
  | .v d :: r => (avd δ r).map (d :: ·)
  | .r j :: r => (avd δ r).bind fun ds => (δ[j]?.bind Sl.cont).map fun d => d :: ds
def avk : List AV → List Bool
  | [] => []
  | .v _ :: r => false :: avk r
  | .r _ :: r => true :: avk r
def avj : List AV → List Nat
  | [] => []
  | .v _ :: r => avj r
  | .r j :: r => j :: avj r
/-- the new contents -/
def putR (δ : DEnv) : List Nat → List D → Option DEnv
  | [], [] => some δ
  | j :: js, d :: ds => match δ[j]? with
    | some s => putR (δ.set j (s.put d)) js ds
    | none => none
  | _, _ => none
def nodupB : List Nat → Bool
  | [] => true
  | j :: r => !r.contains j && nodupB r
def dCall (ks : List Bool) (dvs : List D) (fn : List D → FO) (fs : DA) : DE := fun δ => (fs δ).bind fun as δ1 =>
  if avk as ++ dvs.map (fun _ => false) = ks ∧ nodupB (avj as) = true then
    match avd δ1 as with
    | none => .st
    | some ds => match fn (ds ++ dvs) with
      | .ret d rs => match putR δ1 (avj as) rs with | some δ2 => .ok d δ2 | none => .st
      | .new d rs => match putR δ1 (avj as) rs with | some δ2 => .ok d δ2 | none => .st
      | .ex c ns es rs => match putR δ1 (avj as) rs with | some δ2 => .ex c ns es δ2 | none => .st
      | .st => .st
  else .st
section
variable {K : PySem.W.Frag} {cl : Cw} {hx : Addr × Option Addr} {R : List (Nat × Addr)} {H0 G0 H G H' G' : Hp} {σ : L2.St} {δ : DEnv}
theorem nodupB_ok : ∀ {js : List Nat}, nodupB js = true → js.Nodup
  | [], _ => .nil
  | j :: r, h => by
    simp only [nodupB, Bool.and_eq_true, Bool.not_eq_true', List.contains_eq_mem, decide_eq_false_iff_not] at h
    exact .cons (fun b hb e => h.1 (e ▸ hb)) (nodupB_ok h.2)
theorem args_ok (k : Ok K cl hx R H0 G0 H G σ δ) : ∀ {vs : List V} {as : List AV} {ds : List D}, AvL K cl σ G vs as → avd δ as = some ds → ArgOk K cl H G vs (avk as) ds
  | _, _, _, .nil, e => by cases e; exact .nil
  | _, _, _, .cons (a := .v d) (as := r) h t, e => by
    simp only [avd, Option.map_eq_some_iff] at e
    obtain ⟨ds, e1, rfl⟩ := e
    exact .val h (args_ok k t e1)
  | _, _, _, .cons (v := v) (a := .r j) (as := r) h t, e => by
    simp only [avd, Option.bind_eq_some_iff, Option.map_eq_some_iff] at e
    obtain ⟨ds, e1, d, ⟨s, e2, e3⟩, rfl⟩ := e
    have h : σ[j]? = some (some v) := h
    have q := k.sl j s _ e2 h
    cases s with
    | own d' =>
      cases e3
      obtain ⟨a, z, ga, _, w⟩ := q
      cases z
      exact .rf ga w (args_ok k t e1)
    | rf d' =>
      cases e3
      obtain ⟨a, z, ga, w⟩ := q
      cases z
      exact .rf ga w (args_ok k t e1)
    | un => cases e3
    | val d' => cases e3
    | exc c ns ds => cases e3
theorem args_def {vs us : List V} {ks : List Bool} {ds es : List D} (h : ArgOk K cl H G vs ks ds) (r : RepL K cl G us es) : ArgOk K cl H G (vs ++ us) (ks ++ es.map (fun _ => false)) (ds ++ es) := by
  induction h with
  | nil =>
    show ArgOk K cl H G us (es.map fun _ => false) es
    induction es generalizing us with
    | nil => cases r; exact .nil
    | cons e es ih =>
      cases r with
      | cons r1 r2 => exact .val r1 (ih r2)
  | val h _ ih => exact .val h ih
  | rf h w _ ih => exact .rf h w ih
theorem refA_def : ∀ {vs us : List V} {ks : List Bool} {ds : List D}, ArgOk K cl H G vs ks ds → ∀ (es : List D), us.length = es.length → refA (vs ++ us) (ks ++ es.map (fun _ => false)) = refA vs ks
  | _, us, _, _, .nil, es, hl => by
    show refA us (es.map fun _ => false) = []
    induction us generalizing es with
    | nil => rfl
    | cons u us ih =>
      cases es with
      | nil => cases hl
      | cons e es =>
        have := ih es (by simpa using hl)
        cases u <;> exact this
  | _, us, _, _, .val (v := v) (vs := vs) (ks := ks) h t, es, hl => by
    have ih := refA_def t es hl
    cases v <;> exact ih
  | _, us, _, _, .rf (a := a) (vs := vs) (ks := ks) h w t, es, hl => by
    have ih := refA_def t es hl
    show a :: refA (vs ++ us) (ks ++ _) = a :: refA vs ks
    rw [ih]
/-- the slots and the addresses -/
inductive JsOk (σ : L2.St) : List Nat → List Addr → Prop
  | nil : JsOk σ [] []
  | cons {j : Nat} {a : Addr} {js : List Nat} {as : List Addr} : σ[j]? = some (some (.ref a)) → JsOk σ js as → JsOk σ (j :: js) (a :: as)
theorem js_ok (k : Ok K cl hx R H0 G0 H G σ δ) : ∀ {vs : List V} {as : List AV} {ds : List D}, AvL K cl σ G vs as → avd δ as = some ds → JsOk σ (avj as) (refA vs (avk as)) ∧ ∀ j ∈ avj as, ∃ s, δ[j]? = some s ∧ isO s = true
  | _, _, _, .nil, e => ⟨.nil, fun j h => nomatch h⟩
  | _, _, _, .cons (v := v) (a := .v d) (as := r) h t, e => by
    simp only [avd, Option.map_eq_some_iff] at e
    obtain ⟨ds, e1, rfl⟩ := e
    have ih := js_ok k t e1
    cases v <;> exact ih
  | _, _, _, .cons (v := v) (a := .r j) (as := r) h t, e => by
    simp only [avd, Option.bind_eq_some_iff, Option.map_eq_some_iff] at e
    obtain ⟨ds, e1, d, ⟨s, e2, e3⟩, rfl⟩ := e
    have h : σ[j]? = some (some v) := h
    have ih := js_ok k t e1
    have q := k.sl j s _ e2 h
    have hO : isO s = true := by
      cases s with
      | own d' => rfl
      | rf d' => rfl
      | un => cases e3
      | val d' => cases e3
      | exc c ns ds => cases e3
    obtain ⟨a, d0, z, _, _⟩ := q.ex hO
    cases z
    refine ⟨.cons h ih.1, fun i hi => ?_⟩
    rcases List.mem_cons.mp hi with rfl | hi
    · exact ⟨s, e2, hO⟩
    · exact ih.2 i hi
theorem js_nodup (k : Ok K cl hx R H0 G0 H G σ δ) : ∀ {js : List Nat} {as : List Addr}, JsOk σ js as → js.Nodup → (∀ j ∈ js, ∃ s, δ[j]? = some s ∧ isO s = true) → as.Nodup
  | _, _, .nil, _, _ => .nil
  | _, _, .cons (j := j) (a := a) (js := js) (as := as) h t, nd, ho => by
    have nd' := List.nodup_cons.mp nd
    refine List.nodup_cons.mpr ⟨fun ha => ?_, js_nodup k t nd'.2 fun i hi => ho i (List.mem_cons_of_mem _ hi)⟩
    have find : ∀ {js' : List Nat} {as' : List Addr}, JsOk σ js' as' → a ∈ as' → ∃ i ∈ js', σ[i]? = some (some (.ref a)) := by
      intro js' as' q
      induction q with
      | nil => intro h; cases h
      | cons h0 t0 ih =>
        intro hm
        rcases List.mem_cons.mp hm with rfl | hm
        · exact ⟨_, List.mem_cons_self, h0⟩
        · obtain ⟨i, hi, e⟩ := ih hm
          exact ⟨i, List.mem_cons_of_mem _ hi, e⟩
    obtain ⟨i, hi, e⟩ := find t ha
    obtain ⟨s, e1, o1⟩ := ho j List.mem_cons_self
    obtain ⟨s', e2, o2⟩ := ho i (List.mem_cons_of_mem _ hi)
    have := k.sep j i s s' a e1 e2 o1 o2 h e
    exact nd'.1 (this ▸ hi)
theorem putR_len : ∀ {js : List Nat} {rs : List D} {δ δ' : DEnv}, putR δ js rs = some δ' → δ'.length = δ.length
  | [], [], δ, δ', e => by cases e; rfl
  | [], _ :: _, δ, δ', e => by cases e
  | _ :: _, [], δ, δ', e => by cases e
  | j :: js, d :: ds, δ, δ', e => by
    unfold putR at e
    cases q : δ[j]? with
    | none => rw [q] at e; cases e
    | some s => rw [q] at e; rw [putR_len e, List.length_set]
theorem putR_out : ∀ {js : List Nat} {rs : List D} {δ δ' : DEnv}, putR δ js rs = some δ' → ∀ i, i ∉ js → δ'[i]? = δ[i]?
  | [], [], δ, δ', e, i, hi => by cases e; rfl
  | [], _ :: _, δ, δ', e, i, hi => by cases e
  | _ :: _, [], δ, δ', e, i, hi => by cases e
  | j :: js, d :: ds, δ, δ', e, i, hi => by
    unfold putR at e
    cases q : δ[j]? with
    | none => rw [q] at e; cases e
    | some s =>
      rw [q] at e
      have h1 : i ≠ j := fun z => hi (z ▸ List.mem_cons_self)
      have h2 : i ∉ js := fun z => hi (List.mem_cons_of_mem _ z)
      rw [putR_out e i h2, List.getElem?_set_ne (Ne.symm h1)]
theorem putR_in : ∀ {js : List Nat} {as : List Addr} {rs : List D} {δ δ' : DEnv}, putR δ js rs = some δ' → js.Nodup → JsOk σ js as → RefOk K cl H G as rs → ∀ j ∈ js, ∃ s a d, δ[j]? = some s ∧ σ[j]? = some (some (.ref a)) ∧ δ'[j]? = some (s.put d) ∧ G a = none ∧ Own K cl H G a d ∧ a ∈ as
  | [], _, _, _, _, _, _, _, _ => fun j hj => by cases hj
  | j0 :: js, as, rs, δ, δ', e, nd, hj0, hr => by
    cases hj0 with
    | cons h0 t0 =>
    cases hr with
    | @cons a0 d as ds g0 w0 r0 =>
    unfold putR at e
    have nd' := List.nodup_cons.mp nd
    cases q : δ[j0]? with
    | none => rw [q] at e; cases e
    | some s =>
      rw [q] at e
      have hj0 : j0 < δ.length := (List.getElem?_eq_some_iff.mp q).1
      intro j hj
      rcases List.mem_cons.mp hj with z | hj
      · subst z
        exact ⟨s, _, d, q, h0, by rw [putR_out e _ nd'.1, List.getElem?_set_self hj0], g0, w0, List.mem_cons_self⟩
      · obtain ⟨s', a', d', q1, q2, q3, q4, q5, q6⟩ := putR_in e nd'.2 t0 r0 j hj
        have ne : j ≠ j0 := fun z => nd'.1 (z ▸ hj)
        rw [List.getElem?_set_ne (Ne.symm ne)] at q1
        exact ⟨s', a', d', q1, q2, q3, q4, q5, List.mem_cons_of_mem _ q6⟩
/-- behind a call -/
theorem Ok.called (k : Ok K cl hx R H0 G0 H G σ δ) {js : List Nat} {as : List Addr} {rs : List D} {δ' : DEnv} (f : Frm as H G H' G') (r : RefOk K cl H' G' as rs) (h : JsOk σ js as) (nd : js.Nodup) (ho : ∀ j ∈ js, ∃ s, δ[j]? = some s ∧ isO s = true) (e : putR δ js rs = some δ') :
    Ok K cl hx R H0 G0 H' G' σ δ' := by
  have inAs : ∀ {js' : List Nat} {as' : List Addr}, JsOk σ js' as' → ∀ a ∈ as', ∃ i ∈ js', σ[i]? = some (some (.ref a)) := by
    intro js' as' q
    induction q with
    | nil => intro a h; cases h
    | cons h0 t0 ih =>
      intro a hm
      rcases List.mem_cons.mp hm with rfl | hm
      · exact ⟨_, List.mem_cons_self, h0⟩
      · obtain ⟨i, hi, e⟩ := ih a hm
        exact ⟨i, List.mem_cons_of_mem _ hi, e⟩
  refine k.frame f (putR_len e) (fun i s e1 hO => ?_) (fun i s a e1 hO e2 => ?_) fun a ha => ?_
  · have hi : i ∉ js := fun hi => by
      obtain ⟨s', q1, q2⟩ := ho i hi
      rw [e1] at q1; cases q1
      rw [hO] at q2; cases q2
    rw [putR_out e i hi, e1]
  · by_cases hi : i ∈ js
    · obtain ⟨s', a', d, q1, q2, q3, q4, q5, _⟩ := putR_in e nd h r i hi
      rw [e1] at q1; cases q1
      rw [e2] at q2; cases q2
      exact ⟨d, q3, q4, q5⟩
    · obtain ⟨a', d, z, ga, w, sd⟩ := (k.sl i s _ e1 e2).ex hO
      cases z
      have nin : a ∉ as := fun ha => by
        obtain ⟨j, hj, ej⟩ := inAs h a ha
        obtain ⟨s', q1, q2⟩ := ho j hj
        exact hi (k.sep i j s s' a e1 q1 hO q2 e2 ej ▸ hj)
      obtain ⟨u, hu⟩ := w.ex
      refine ⟨d, by rw [putR_out e i hi, e1]; rcases sd with rfl | rfl <;> rfl, ?_, w.mono f.gk fun o z => f.kept a o z nin⟩
      cases q : G' a with
      | none => rfl
      | some u' =>
        rcases f.new a u' q with z | z
        · rw [ga] at z; cases z
        · rw [hu] at z; cases z
  · obtain ⟨i, hi, e2⟩ := inAs h a ha
    obtain ⟨s, q1, q2⟩ := ho i hi
    exact ⟨i, s, q1, q2, e2⟩
end
section
variable {c : Cf} {X : Cx} {CX' : CXT} {k : Nat} {f : Addr} {fd : FuncData} {ps : List Str} {sp : Sp} {x m : Str} {p pos apos : Pos} {e o : Expr} {es : List Expr} {ta : TE} {t : TA} {dvs : List V} {ds : List Value}
theorem run_fnD {E : L2.St → XK} {pins : List (Addr × Obj)} {σ : L2.St} {H : Hp} {s : Shared} {Q : VK} {us : List Value} {vs : List V} (F : FnOk X.prog X.w X.K X.mg X.base CX' k f fd ps sp) (hr : Room k X.A) (hb : Binds X.K fd ps ds) (hd : Vals dvs ds) (hx : PassesAt CX' X σ (E σ))
    (I : Inv X pins σ H s) (r : Vals vs us) (h : sp (vs ++ dvs) H Q (E σ)) : wpAny (model X.prog X.w) X.A (call (.ref f) us) (EP X pins σ Q) X.xe s := by
  have r2 : Vals (vs ++ dvs) (us ++ ds) := r.append hd
  have hl : (us ++ ds).length = ps.length := by rw [← r2.length]; exact F.len _ _ _ _ h
  refine wpAny_call (codeAny_mono (F.run X.A X.stack s H ⟨us, []⟩ (us ++ ds) (vs ++ dvs) Q (E σ) hr I.env0 (hb s us I.kIn hl) r2 h) fun r s' hq => ?_)
  cases r with
  | error e => exact hx pins H s e s' I hq
  | ok fl =>
    cases fl with
    | ret u => exact I.after hq
    | next => exact False.elim hq
    | brk => exact False.elim hq
    | cont => exact False.elim hq
def tCallD (sp : Sp) (dvs : List V) (E : L2.St → XK) (t : TA) : TE := fun σ H Q => t σ H fun vs H1 => sp (vs ++ dvs) H1 Q (E σ)
theorem pe_callD {E : L2.St → XK} (F : FnOk X.prog X.w X.K X.mg X.base CX' k f fd ps sp) (hr : Room k X.A) (hg : Gl X x) (hm : X.mg x = some (.ref f)) (hk : PySem.W.keepIn X.K (.ref f) = true) (hb : Binds X.K fd ps ds) (hd : Vals dvs ds) (hx : ∀ σ, PassesAt CX' X σ (E σ))
    (ha : PA X (e :: es) t) (hdb : (x == ("__debug__" : Str)) = false := by decide) (he : starEach (e :: es) X.env = (false, eval e X.env) :: starEach es X.env := by rfl) (hpl : (backTo pos (starEach es X.env)).any (·.1) = false := by rfl) :
    PE X (.Call (.Name x p) (e :: es) [] pos) (tCallD sp dvs E t) := by
  refine ⟨fun pins s σ H Q I h => ?_⟩
  refine wpAny_Call_Name_kw (ld_glob I hg hm ?_ hdb)
  refine PySem.W.callWith_K (h₀ := X.base) I.ok.mod.kin hk (thn (ha.run pos pins s σ H _ I h) fun us s1 ⟨vs, H1, I1, r, q⟩ => ⟨I1.kIn, ?_⟩) he hpl
  exact run_fnD F hr hb hd (hx σ) I1 r q
theorem pe_callD0 {E : L2.St → XK} (F : FnOk X.prog X.w X.K X.mg X.base CX' k f fd ps sp) (hr : Room k X.A) (hg : Gl X x) (hm : X.mg x = some (.ref f)) (hk : PySem.W.keepIn X.K (.ref f) = true) (hb : Binds X.K fd ps ds) (hd : Vals dvs ds) (hx : ∀ σ, PassesAt CX' X σ (E σ))
    (hdb : (x == ("__debug__" : Str)) = false := by decide) : PE X (.Call (.Name x p) [] [] pos) (tCallD sp dvs E tNil) := by
  refine ⟨fun pins s σ H Q I h => ?_⟩
  refine wpAny_Call_Name_kw (ld_glob I hg hm ?_ hdb)
  exact PySem.W.callWith_K0 I.kIn hk (run_fnD (us := []) F hr hb hd (hx σ) I .nil h)
/-- the reading of a call -/
theorem call_ok {ks : List Bool} {dds : List D} {fn : List D → FO} {fs : DA} (hd : ∀ G, RepL X.K c.cl G dvs dds) {R : List (Nat × Addr)} {H0 G0 H G : Hp} {σ : L2.St} {δ : DEnv} {Q : VK} {t : TA}
    (ha : ∀ (Q' : List V → Hp → Prop), EPost (c.fx X R H0 G0) c.W σ (AvL X.K c.cl σ) G (fs δ) Q' → t σ H Q')
    (h : EPost (c.fx X R H0 G0) c.W σ (relD X.K c.cl) G (dCall ks dds fn fs δ) Q) : tCallD (SpF X.K c.cl ks fn) dvs (WE c.W) t σ H Q := by
  refine ha _ (EPost.imp (EPost.bind h) fun vs H1 ⟨G1, as, δ1, s1, k1, r1, h1⟩ => ?_)
  by_cases hc : avk as ++ dds.map (fun _ => false) = ks ∧ nodupB (avj as) = true
  · rw [if_pos hc] at h1
    cases q : avd δ1 as with
    | none => rw [q] at h1; exact h1.elim
    | some es =>
      rw [q] at h1
      have a1 := args_ok k1 r1 q
      have hl := (hd G1).length
      have a2 := args_def a1 (hd G1)
      have e2 : refA (vs ++ dvs) ks = refA vs (avk as) := by rw [← hc.1]; exact refA_def a1 dds hl
      obtain ⟨j1, j2⟩ := js_ok k1 r1 q
      have nd := nodupB_ok hc.2
      rw [hc.1] at a2
      refine ⟨G1, es ++ dds, k1.sub, a2, by rw [e2]; exact js_nodup k1 j1 nd j2, ?_⟩
      cases qf : fn (es ++ dds) with
      | st => simp only [qf] at h1; exact h1.elim
      | ret d rs =>
        simp only [qf] at h1
        intro v H' G' fr ro rv
        rw [e2] at fr ro
        cases qp : putR δ1 (avj as) rs with
        | none => simp only [qp] at h1; exact h1.elim
        | some δ2 =>
          simp only [qp] at h1
          exact h1 v H' G' fr.gk (k1.called fr ro j1 nd j2 qp) rv
      | new d rs =>
        simp only [qf] at h1
        intro a H' G' fr ro na ga ow
        rw [e2] at fr ro
        cases qp : putR δ1 (avj as) rs with
        | none => simp only [qp] at h1; exact h1.elim
        | some δ2 =>
          simp only [qp] at h1
          have k2 := k1.called fr ro j1 nd j2 qp
          obtain ⟨G2, s2, r2, k3⟩ := k2.freezeNew ga (k1.freshH0 na) ow fun j t e o => by
            have hl2 := putR_len qp
            have hj : j < δ1.length := by rw [← hl2]; exact (List.getElem?_eq_some_iff.mp e).1
            intro z
            have e0 := List.getElem?_eq_getElem hj
            cases hO : isO δ1[j] with
            | true => exact k1.freshSl na e0 hO z
            | false =>
              have nj : j ∉ avj as := fun hm => by
                obtain ⟨s', q1, q2⟩ := j2 j hm
                rw [e0] at q1; cases q1
                rw [hO] at q2; cases q2
              rw [putR_out qp j nj, e0] at e
              cases e
              rw [hO] at o; cases o
          exact h1 (.ref a) H' G2 (fr.gk.trans s2) k3 r2
      | ex cn ns es' rs =>
        simp only [qf] at h1
        intro cls dd H' G' fr ro xo
        rw [e2] at fr ro
        cases qp : putR δ1 (avj as) rs with
        | none => simp only [qp] at h1; exact h1.elim
        | some δ2 =>
          simp only [qp] at h1
          exact h1 cls dd H' G' fr.gk (k1.called fr ro j1 nd j2 qp) xo
  · rw [if_neg hc] at h1; exact h1.elim
/-- the same, the answer a new object -/
def dCallO (ks : List Bool) (dvs : List D) (fn : List D → FO) (fs : DA) : DE := fun δ => (fs δ).bind fun as δ1 =>
  if avk as ++ dvs.map (fun _ => false) = ks ∧ nodupB (avj as) = true then
    match avd δ1 as with
    | none => .st
    | some ds => match fn (ds ++ dvs) with
      | .ret _ _ => .st
      | .new d rs => match putR δ1 (avj as) rs with | some δ2 => .ok d δ2 | none => .st
      | .ex c ns es rs => match putR δ1 (avj as) rs with | some δ2 => .ex c ns es δ2 | none => .st
      | .st => .st
  else .st
theorem callO_ok {ks : List Bool} {dds : List D} {fn : List D → FO} {fs : DA} (hd : ∀ G, RepL X.K c.cl G dvs dds) {R : List (Nat × Addr)} {H0 G0 H G : Hp} {σ : L2.St} {δ : DEnv} {Q : VK} {t : TA}
    (ha : ∀ (Q' : List V → Hp → Prop), EPost (c.fx X R H0 G0) c.W σ (AvL X.K c.cl σ) G (fs δ) Q' → t σ H Q')
    (h : FPost (c.fx X R H0 G0) c.W σ G (dCallO ks dds fn fs δ) Q) : tCallD (SpF X.K c.cl ks fn) dvs (WE c.W) t σ H Q := by
  refine ha _ (EPost.imp (FPost.bind (rel := fun _ _ _ => True) h) fun vs H1 ⟨G1, as, δ1, s1, k1, r1, h1⟩ => ?_)
  by_cases hc : avk as ++ dds.map (fun _ => false) = ks ∧ nodupB (avj as) = true
  · rw [if_pos hc] at h1
    cases q : avd δ1 as with
    | none => rw [q] at h1; exact h1.elim
    | some es =>
      rw [q] at h1
      have a1 := args_ok k1 r1 q
      have hl := (hd G1).length
      have a2 := args_def a1 (hd G1)
      have e2 : refA (vs ++ dvs) ks = refA vs (avk as) := by rw [← hc.1]; exact refA_def a1 dds hl
      obtain ⟨j1, j2⟩ := js_ok k1 r1 q
      have nd := nodupB_ok hc.2
      rw [hc.1] at a2
      refine ⟨G1, es ++ dds, k1.sub, a2, by rw [e2]; exact js_nodup k1 j1 nd j2, ?_⟩
      cases qf : fn (es ++ dds) with
      | st => simp only [qf] at h1; exact h1.elim
      | ret d rs => simp only [qf] at h1; exact h1.elim
      | new d rs =>
        simp only [qf] at h1
        intro a H' G' fr ro na ga ow
        rw [e2] at fr ro
        cases qp : putR δ1 (avj as) rs with
        | none => simp only [qp] at h1; exact h1.elim
        | some δ2 =>
          simp only [qp] at h1
          have k2 := k1.called fr ro j1 nd j2 qp
          refine h1 a H' G' fr.gk k2 ga (k1.freshH0 na) ow fun j t e o => ?_
          have hl2 := putR_len qp
          have hj : j < δ1.length := by rw [← hl2]; exact (List.getElem?_eq_some_iff.mp e).1
          intro z
          have e0 := List.getElem?_eq_getElem hj
          cases hO : isO δ1[j] with
          | true => exact k1.freshSl na e0 hO z
          | false =>
            have nj : j ∉ avj as := fun hm => by
              obtain ⟨s', q1, q2⟩ := j2 j hm
              rw [e0] at q1; cases q1
              rw [hO] at q2; cases q2
            rw [putR_out qp j nj, e0] at e
            cases e
            rw [hO] at o; cases o
      | ex cn ns es' rs =>
        simp only [qf] at h1
        intro cls dd H' G' fr ro xo
        rw [e2] at fr ro
        cases qp : putR δ1 (avj as) rs with
        | none => simp only [qp] at h1; exact h1.elim
        | some δ2 =>
          simp only [qp] at h1
          exact h1 cls dd H' G' fr.gk (k1.called fr ro j1 nd j2 qp) xo
  · rw [if_neg hc] at h1; exact h1.elim
/-- what stands for a def: at f, its promise, how it binds -/
structure DefOk (P : Program) (w : World) (K : PySem.W.Frag) (mg : Str → Option Value) (base : Heap) (cl : Cw) (k : Nat) (x : Str) (ks : List Bool) (fn : List D → FO) (f : Addr) (fd : FuncData) (ps : List Str) : Prop where
  ok : FnOk P w K mg base (L2.CX P w) k f fd ps (SpF K cl ks fn)
  mg : mg x = some (.ref f)
  kp : PySem.W.keepIn K (.ref f) = true
theorem je_call {ks : List Bool} {dds : List D} {fn : List D → FO} {fs : DA} (F : DefOk X.prog X.w X.K X.mg X.base c.cl k x ks fn f fd ps) (hr : Room k X.A) (tk : Takes X c.W) (hg : Gl X x) (hb : Binds X.K fd ps ds) (hv : Vals dvs ds) (hd : ∀ G, RepL X.K c.cl G dvs dds)
    (ha : JA c X (e :: es) fs) (hdb : (x == ("__debug__" : Str)) = false := by decide) (he : starEach (e :: es) X.env = (false, eval e X.env) :: starEach es X.env := by rfl) (hpl : (backTo pos (starEach es X.env)).any (·.1) = false := by rfl) :
    JE c X (.Call (.Name x p) (e :: es) [] pos) (dCall ks dds fn fs) :=
  je_of (pe_callD F.ok hr hg F.mg F.kp hb hv (fun σ => passAt tk σ) (paS X (e :: es)) hdb he hpl) fun R H0 G0 H G σ δ Q k h => call_ok hd (fun Q' h' => ha R H0 G0 H G σ δ Q' k h') h
theorem jf_call {ks : List Bool} {dds : List D} {fn : List D → FO} {fs : DA} (F : DefOk X.prog X.w X.K X.mg X.base c.cl k x ks fn f fd ps) (hr : Room k X.A) (tk : Takes X c.W) (hg : Gl X x) (hb : Binds X.K fd ps ds) (hv : Vals dvs ds) (hd : ∀ G, RepL X.K c.cl G dvs dds)
    (ha : JA c X (e :: es) fs) (hdb : (x == ("__debug__" : Str)) = false := by decide) (he : starEach (e :: es) X.env = (false, eval e X.env) :: starEach es X.env := by rfl) (hpl : (backTo pos (starEach es X.env)).any (·.1) = false := by rfl) :
    JF c X (.Call (.Name x p) (e :: es) [] pos) (dCallO ks dds fn fs) := fun R H0 G0 H G σ δ Q k h pins s I =>
  (pe_callD F.ok hr hg F.mg F.kp hb hv (fun σ => passAt tk σ) (paS X (e :: es)) hdb he hpl).run pins s σ H Q I (callO_ok hd (fun Q' h' => ha R H0 G0 H G σ δ Q' k h') h)
theorem DefOk.mono {P : Program} {w : World} {K : PySem.W.Frag} {mg : Str → Option Value} {base : Heap} {cl : Cw} {j k : Nat} {x : Str} {ks : List Bool} {fn : List D → FO} {f : Addr} {fd : FuncData} {ps : List Str} (F : DefOk P w K mg base cl j x ks fn f fd ps) (h : j ≤ k) : DefOk P w K mg base cl k x ks fn f fd ps := ⟨F.ok.mono h, F.mg, F.kp⟩
theorem je_call0 {ks : List Bool} {dds : List D} {fn : List D → FO} (F : DefOk X.prog X.w X.K X.mg X.base c.cl k x ks fn f fd ps) (hr : Room k X.A) (tk : Takes X c.W) (hg : Gl X x) (hb : Binds X.K fd ps ds) (hv : Vals dvs ds) (hd : ∀ G, RepL X.K c.cl G dvs dds)
    (hdb : (x == ("__debug__" : Str)) = false := by decide) : JE c X (.Call (.Name x p) [] [] pos) (dCall ks dds fn dNil) :=
  je_of (pe_callD0 F.ok hr hg F.mg F.kp hb hv (fun σ => passAt tk σ) hdb) fun R H0 G0 H G σ δ Q k h => call_ok hd (fs := dNil) (fun Q' (h' : ∀ b H' G', _ → _ → _ → _) => h' [] H G (.refl G) k .nil) h
end
end DL

set_option maxRecDepth 100000
set_option maxHeartbeats 4000000
namespace DL
open PySem PySem.Spec PyProof.Rows L2

/-! ### statements -/
def SPost (f : Fx) (W : WX) (G : Hp) (o : SO) (D' : Ends) : Prop := match o with
  | .nx δ => ∀ σ' H' G', Sub G G' → f.Ok H' G' σ' δ → D'.nx σ' H'
  | .rt d δ => ∀ v σ' H' G', Sub G G' → f.Ok H' G' σ' δ → Rep f.K f.cl G' v d → D'.rt v H'
  | .ro d δ => ∀ a σ' H' G', Sub G G' → f.Ok H' G' σ' δ → f.H0 a = none → G' a = none → Own f.K f.cl H' G' a d → D'.rt (.ref a) H'
  | .bk δ => ∀ σ' H' G', Sub G G' → f.Ok H' G' σ' δ → D'.bk σ' H'
  | .ct δ => ∀ σ' H' G', Sub G G' → f.Ok H' G' σ' δ → D'.ct σ' H'
  | .ex c ns ds δ => ∀ cls dd σ' H' G', Sub G G' → f.Ok H' G' σ' δ → XOk f.K f.cl G' c ns ds cls dd → W cls dd σ' H'
  | .st => False
theorem SPost.weak {f : Fx} {W : WX} {G G' : Hp} {o : SO} {D' : Ends} (s : Sub G G') (h : SPost f W G o D') : SPost f W G' o D' := by
  cases o with
  | nx δ => exact fun σ' H' G'' s' => h σ' H' G'' (s.trans s')
  | rt d δ => exact fun v σ' H' G'' s' => h v σ' H' G'' (s.trans s')
  | ro d δ => exact fun a σ' H' G'' s' => h a σ' H' G'' (s.trans s')
  | bk δ => exact fun σ' H' G'' s' => h σ' H' G'' (s.trans s')
  | ct δ => exact fun σ' H' G'' s' => h σ' H' G'' (s.trans s')
  | ex c ns ds δ => exact fun cls dd σ' H' G'' s' => h cls dd σ' H' G'' (s.trans s')
  | st => exact h
def JS (c : Cf) (X : Cx) (st : Stmt) (F : DS) : Prop := ∀ (R : List (Nat × Addr)) (H0 G0 H G : Hp) (σ : L2.St) (δ : DEnv) (D' : Ends), (c.fx X R H0 G0).Ok H G σ δ → SPost (c.fx X R H0 G0) c.W G (F δ) D' → tS X st D' σ H
def JSs (c : Cf) (X : Cx) (st : List Stmt) (F : DS) : Prop := ∀ (R : List (Nat × Addr)) (H0 G0 H G : Hp) (σ : L2.St) (δ : DEnv) (D' : Ends), (c.fx X R H0 G0).Ok H G σ δ → SPost (c.fx X R H0 G0) c.W G (F δ) D' → tSs X st D' σ H
def EO.to {α : Type} (o : EO α) (k : α → DEnv → SO) : SO := match o with
  | .ok a δ => k a δ
  | .ex c ns ds δ => .ex c ns ds δ
  | .st => .st
def SO.then (o : SO) (k : DEnv → SO) : SO := match o with
  | .nx δ => k δ
  | o => o
theorem SPost.ofE {α β : Type} {f : Fx} {W : WX} {σ : L2.St} {rel : Hp → β → α → Prop} {G : Hp} {o : EO α} {k : α → DEnv → SO} {D' : Ends} (h : SPost f W G (o.to k) D') :
    EPost f W σ rel G o (fun b H1 => ∃ G1 a δ1, Sub G G1 ∧ f.Ok H1 G1 σ δ1 ∧ rel G1 b a ∧ SPost f W G1 (k a δ1) D') := by
  cases o with
  | ok a δ => exact fun b H' G' s k' r => ⟨G', a, δ, s, k', r, SPost.weak s h⟩
  | ex c ns ds δ => exact fun cls dd H' G' s k' x => h cls dd σ H' G' s k' x
  | st => exact h
theorem SPost.ofF {f : Fx} {W : WX} {σ : L2.St} {G : Hp} {o : EO D} {k : D → DEnv → SO} {D' : Ends} (h : SPost f W G (o.to k) D') :
    FPost f W σ G o (fun v H1 => ∃ a G1 d δ1, v = .ref a ∧ Sub G G1 ∧ f.Ok H1 G1 σ δ1 ∧ G1 a = none ∧ f.H0 a = none ∧ Own f.K f.cl H1 G1 a d ∧ (∀ (j : Nat) (t : Sl), δ1[j]? = some t → isO t = true → σ[j]? ≠ some (some (.ref a))) ∧ SPost f W G1 (k d δ1) D') := by
  cases o with
  | ok d δ => exact fun a H' G' s k' ga h0 w hs => ⟨a, G', d, δ, rfl, s, k', ga, h0, w, hs, SPost.weak s h⟩
  | ex c ns ds δ => exact fun cls dd H' G' s k' x => h cls dd σ H' G' s k' x
  | st => exact h
def sNil : DS := fun δ => .nx δ
def sSeq (f g : DS) : DS := fun δ => (f δ).then g
def sExpr (f : DE) : DS := fun δ => (f δ).to fun _ δ1 => .nx δ1
def sRet (f : DE) : DS := fun δ => (f δ).to fun d δ1 => .rt d δ1
def sRetO (f : DE) : DS := fun δ => (f δ).to fun d δ1 => .ro d δ1
def sRetN : DS := fun δ => .rt .non δ
def sIf (t : DT) (f g : DS) : DS := fun δ => (t δ).to fun b δ1 => if b = true then f δ1 else g δ1
/-- a plain value into slot i -/
def setV (i : Nat) (d : D) (δ : DEnv) : Option DEnv := match δ[i]? with
  | some (.rf _) => none
  | some _ => some (δ.set i (.val d))
  | none => none
def setO (i : Nat) (d : D) (δ : DEnv) : Option DEnv := match δ[i]? with
  | some (.rf _) => none
  | some _ => some (δ.set i (.own d))
  | none => none
def oNx : Option DEnv → SO
  | some δ => .nx δ
  | none => .st
def sSet (i : Nat) (f : DE) : DS := fun δ => (f δ).to fun d δ1 => oNx (setV i d δ1)
def sSetO (i : Nat) (f : DE) : DS := fun δ => (f δ).to fun d δ1 => oNx (setO i d δ1)
section
variable {K : PySem.W.Frag} {cl : Cw} {hx : Addr × Option Addr} {R : List (Nat × Addr)} {H0 G0 H G H' G' : Hp} {σ : L2.St} {δ : DEnv}
theorem Ok.setV (k : Ok K cl hx R H0 G0 H G σ δ) {i : Nat} {v : V} {d : D} {δ' : DEnv} (e : DL.setV i d δ = some δ') (r : Rep K cl G v d) : Ok K cl hx R H0 G0 H G (σ.set i (some v)) δ' := by
  unfold DL.setV at e
  cases q : δ[i]? with
  | none => rw [q] at e; cases e
  | some s =>
    rw [q] at e
    have go : (∀ d, s ≠ .rf d) → some (δ.set i (.val d)) = some δ' → Ok K cl hx R H0 G0 H G (σ.set i (some v)) δ' := fun hn e => by
      cases e
      exact k.set q hn ⟨v, rfl, r⟩ (fun d z => nomatch z) (fun a o _ => nomatch o)
    cases s with
    | rf d => cases e
    | un => exact go (fun d z => nomatch z) e
    | val d => exact go (fun d z => nomatch z) e
    | own d => exact go (fun d z => nomatch z) e
    | exc c ns ds => exact go (fun d z => nomatch z) e
theorem Ok.setO (k : Ok K cl hx R H0 G0 H G σ δ) {i : Nat} {a : Addr} {d : D} {δ' : DEnv} (e : DL.setO i d δ = some δ') (ga : G a = none) (h0 : H0 a = none) (w : Own K cl H G a d)
    (hs : ∀ (j : Nat) (t : Sl), δ[j]? = some t → isO t = true → σ[j]? ≠ some (some (.ref a))) : Ok K cl hx R H0 G0 H G (σ.set i (some (.ref a))) δ' := by
  unfold DL.setO at e
  cases q : δ[i]? with
  | none => rw [q] at e; cases e
  | some s =>
    rw [q] at e
    have go : (∀ d, s ≠ .rf d) → some (δ.set i (.own d)) = some δ' → Ok K cl hx R H0 G0 H G (σ.set i (some (.ref a))) δ' := fun hn e => by
      cases e
      exact k.set q hn ⟨a, rfl, ga, h0, w⟩ (fun d z => nomatch z) (fun b o z j t e1 o1 => by cases z; exact hs j t e1 o1)
    cases s with
    | rf d => cases e
    | un => exact go (fun d z => nomatch z) e
    | val d => exact go (fun d z => nomatch z) e
    | own d => exact go (fun d z => nomatch z) e
    | exc c ns ds => exact go (fun d z => nomatch z) e
end
section
variable {c : Cf} {X : Cx} {st : Stmt} {rest : List Stmt} {f g : DS} {e : Expr} {fe : DE} {ft : DT} {pos : Pos}
theorem js_of {t : TS} {F : DS} (p : PS X st t) (h : ∀ (R : List (Nat × Addr)) (H0 G0 H G : Hp) (σ : L2.St) (δ : DEnv) (D' : Ends), (c.fx X R H0 G0).Ok H G σ δ → SPost (c.fx X R H0 G0) c.W G (F δ) D' → t D' σ H) : JS c X st F :=
  fun R H0 G0 H G σ δ D' k h' pins s I => p.run pins s σ H D' I (h R H0 G0 H G σ δ D' k h')
theorem jss_of {sts : List Stmt} {t : TS} {F : DS} (p : PSs X sts t) (h : ∀ (R : List (Nat × Addr)) (H0 G0 H G : Hp) (σ : L2.St) (δ : DEnv) (D' : Ends), (c.fx X R H0 G0).Ok H G σ δ → SPost (c.fx X R H0 G0) c.W G (F δ) D' → t D' σ H) : JSs c X sts F :=
  fun R H0 G0 H G σ δ D' k h' pins s I => p.run pins s σ H D' I (h R H0 G0 H G σ δ D' k h')
theorem jss_nil : JSs c X [] sNil := jss_of pss_nil fun R H0 G0 H G σ δ D' k h => h σ H G (.refl G) k
theorem jss_cons (h1 : JS c X st f) (h2 : JSs c X rest g) : JSs c X (st :: rest) (sSeq f g) := by
  refine jss_of (pss_cons (psS X st) (pssS X rest)) fun R H0 G0 H G σ δ D' k h => ?_
  refine h1 R H0 G0 H G σ δ _ k ?_
  have h : SPost (c.fx X R H0 G0) c.W G ((f δ).then g) D' := h
  cases q : f δ with
  | nx δ1 =>
    rw [q] at h
    intro σ' H' G' s k'
    exact h2 R H0 G0 H' G' σ' δ1 D' k' (SPost.weak s h)
  | rt d δ1 => rw [q] at h; exact h
  | ro d δ1 => rw [q] at h; exact h
  | bk δ1 => rw [q] at h; exact h
  | ct δ1 => rw [q] at h; exact h
  | ex cn ns ds δ1 => rw [q] at h; exact h
  | st => rw [q] at h; exact h
theorem jss_one (h1 : JS c X st f) : JSs c X [st] f := jss_of (pss_one (psS X st)) fun R H0 G0 H G σ δ D' k h => h1 R H0 G0 H G σ δ D' k h
theorem js_ret (he : JE c X e fe) : JS c X (.Return (some e) pos) (sRet fe) :=
  js_of (ps_ret (peS X e)) fun R H0 G0 H G σ δ D' k h => he R H0 G0 H G σ δ _ k (EPost.imp (SPost.ofE h) fun x H1 ⟨G1, d, δ1, s1, k1, r1, h1⟩ => h1 x σ H1 G1 (.refl G1) k1 r1)
theorem js_retO (he : JF c X e fe) : JS c X (.Return (some e) pos) (sRetO fe) :=
  js_of (ps_ret (peS X e)) fun R H0 G0 H G σ δ D' k h => he R H0 G0 H G σ δ _ k (by
    have h' := SPost.ofF (σ := σ) h
    cases q : fe δ with
    | st => rw [q] at h'; exact h'
    | ex cn ns ds δ1 => rw [q] at h'; exact h'
    | ok d δ1 =>
      rw [q] at h'
      intro a H1 G1 s1 k1 ga h0 w hs'
      obtain ⟨a', G2, d', δ2, ea, s2, k2, ga2, h02, w2, hs2, h1⟩ := h' a H1 G1 s1 k1 ga h0 w hs'
      cases ea
      exact h1 a σ H1 G2 (.refl G2) k2 h02 ga2 w2)
theorem js_if {t : Expr} {a b : List Stmt} (ht : JT c X t ft) (ha : JSs c X a f) (hb : JSs c X b g) : JS c X (.If t a b pos) (sIf ft f g) := by
  refine js_of (ps_if (ptS X t) (pssS X a) (pssS X b)) fun R H0 G0 H G σ δ D' k h => ?_
  refine ht R H0 G0 H G σ δ _ k (EPost.imp (SPost.ofE h) fun x H1 ⟨G1, b', δ1, s1, k1, r1, h1⟩ => ?_)
  have r1 : x = b' := r1
  subst r1
  cases x with
  | true => exact ha R H0 G0 H1 G1 σ δ1 D' k1 h1
  | false => exact hb R H0 G0 H1 G1 σ δ1 D' k1 h1
theorem js_set {i : Nat} {x : Str} {pos' : Pos} (hN : X.N.Nodup) (hi : X.N[i]? = some x) (hx : Loc X.env.scope x) (he : JE c X e fe) (hs : swapsWith e (some (.Name x pos')) pos.line X.env = pure false := by rfl)
    (hf : X.fn x = true ∨ X.env.scope.names.lookup x = some .local := by first | exact .inl rfl | exact .inr rfl | assumption) : JS c X (.Assign [.Name x pos'] e pos) (sSet i fe) :=
  js_of (ps_set hN hi hx (peS X e) hs hf) fun R H0 G0 H G σ δ D' k h => he R H0 G0 H G σ δ _ k (EPost.imp (SPost.ofE h) fun v H1 ⟨G1, d, δ1, s1, k1, r1, h1⟩ => by
    cases q : setV i d δ1 with
    | none => rw [q] at h1; exact h1.elim
    | some δ2 => rw [q] at h1; exact h1 _ H1 G1 (.refl G1) (k1.setV q r1))
theorem js_setO {i : Nat} {x : Str} {pos' : Pos} (hN : X.N.Nodup) (hi : X.N[i]? = some x) (hx : Loc X.env.scope x) (he : JF c X e fe) (hs : swapsWith e (some (.Name x pos')) pos.line X.env = pure false := by rfl)
    (hf : X.fn x = true ∨ X.env.scope.names.lookup x = some .local := by first | exact .inl rfl | exact .inr rfl | assumption) : JS c X (.Assign [.Name x pos'] e pos) (sSetO i fe) :=
  js_of (ps_set hN hi hx (peS X e) hs hf) fun R H0 G0 H G σ δ D' k h => he R H0 G0 H G σ δ _ k (by
    have h' := SPost.ofF (σ := σ) h
    cases q : fe δ with
    | st => rw [q] at h'; exact h'
    | ex cn ns ds δ1 => rw [q] at h'; exact h'
    | ok d δ1 =>
      rw [q] at h'
      intro a H1 G1 s1 k1 ga h0 w hs'
      obtain ⟨a', G2, d', δ2, ea, s2, k2, ga2, h02, w2, hs2, h1⟩ := h' a H1 G1 s1 k1 ga h0 w hs'
      cases ea
      cases q2 : setO i d' δ2 with
      | none => rw [q2] at h1; exact h1.elim
      | some δ3 => rw [q2] at h1; exact h1 _ H1 G2 (.refl G2) (k2.setO q2 ga2 h02 w2 hs2))
end

/-! ### a def by its body -/
def mkEnv : List Bool → List D → Nat → DEnv
  | true :: ks, d :: ds, n => .rf d :: mkEnv ks ds (n - 1)
  | false :: ks, d :: ds, n => .val d :: mkEnv ks ds (n - 1)
  | _, _, n => List.replicate n .un
def endR : List Bool → DEnv → Option (List D)
  | true :: ks, s :: δ => (endR ks δ).bind fun r => (s.cont).map fun d => d :: r
  | false :: ks, _ :: δ => endR ks δ
  | [], _ => some []
  | _ :: _, [] => none
def toFO (ks : List Bool) : SO → FO
  | .nx δ => match endR ks δ with | some rs => .ret .non rs | none => .st
  | .rt d δ => match endR ks δ with | some rs => .ret d rs | none => .st
  | .ro d δ => match endR ks δ with | some rs => .new d rs | none => .st
  | .ex c ns ds δ => match endR ks δ with | some rs => .ex c ns ds rs | none => .st
  | _ => .st
/-- the def's function: n names -/
def defF (ks : List Bool) (n : Nat) (F : DS) (ds : List D) : FO := if ds.length = ks.length then toFO ks (F (mkEnv ks ds n)) else .st
/-- the by-reference parameters' slots, from slot i on -/
def refS : List V → List Bool → Nat → List (Nat × Addr)
  | .ref a :: vs, true :: ks, i => (i, a) :: refS vs ks (i + 1)
  | _ :: vs, _ :: ks, i => refS vs ks (i + 1)
  | _, _, _ => []
section
variable {K : PySem.W.Frag} {cl : Cw} {hx : Addr × Option Addr} {H G : Hp}
theorem refS_addr : ∀ {vs : List V} {ks : List Bool} {i : Nat}, (refS vs ks i).map (·.2) = refA vs ks
  | [], [], i => rfl
  | [], k :: ks, i => by cases k <;> rfl
  | v :: vs, [], i => by cases v <;> rfl
  | v :: vs, k :: ks, i => by
    have ih := refS_addr (vs := vs) (ks := ks) (i := i + 1)
    cases k with
    | true =>
      cases v with
      | ref a => show a :: _ = a :: _; rw [ih]
      | _ => exact ih
    | false => cases v <;> exact ih
/-- the state at the entry, from slot i on -/
theorem entry : ∀ {vs : List V} {ks : List Bool} {ds : List D}, ArgOk K cl H G vs ks ds → ∀ (n : Nat), ks.length ≤ n →
    (vs.map some ++ List.replicate (n - vs.length) (none : Option V)).length = (mkEnv ks ds n).length ∧
    (∀ (j : Nat) (s : Sl) (x : Option V), (mkEnv ks ds n)[j]? = some s → (vs.map some ++ List.replicate (n - vs.length) (none : Option V))[j]? = some x → SlOk K cl hx H H G x s ∧ (isO s = true → ∃ a d, s = .rf d ∧ x = some (.ref a) ∧ ∀ i, (i + j, a) ∈ refS vs ks i)) ∧
    (∀ i p, p ∈ refS vs ks i → i ≤ p.1 ∧ H p.2 ≠ none ∧ G p.2 = none ∧ ∃ d, (mkEnv ks ds n)[p.1 - i]? = some (.rf d) ∧ (vs.map some ++ List.replicate (n - vs.length) (none : Option V))[p.1 - i]? = some (some (.ref p.2)))
  | _, _, _, .nil, n, hn => by
    refine ⟨by simp [mkEnv], fun j s x e1 e2 => ?_, fun i p hp => by cases hp⟩
    have e1 : (List.replicate n Sl.un)[j]? = some s := e1
    rw [List.getElem?_replicate] at e1
    split at e1
    · cases e1; exact ⟨trivial, fun z => nomatch z⟩
    · cases e1
  | _, _, _, .val (v := v) (d := d) (vs := vs) (ks := ks) (ds := ds) h t, n, hn => by
    have hn' : ks.length ≤ n - 1 := by simp only [List.length_cons] at hn; omega
    obtain ⟨i1, i2, i3⟩ := entry t (n - 1) hn'
    have e0 : n - (v :: vs).length = n - 1 - vs.length := by simp only [List.length_cons]; omega
    rw [e0]
    refine ⟨by simpa [mkEnv] using i1, fun j s x e1 e2 => ?_, fun i p hp => ?_⟩
    · cases j with
      | zero =>
        have e1 : some (Sl.val d) = some s := e1
        have e2 : some (some v) = some x := e2
        cases e1; cases e2
        exact ⟨⟨v, rfl, h⟩, fun z => nomatch z⟩
      | succ j =>
        obtain ⟨q1, q2⟩ := i2 j s x (by simpa [mkEnv] using e1) (by simpa using e2)
        refine ⟨q1, fun z => ?_⟩
        obtain ⟨a, d', y1, y2, y3⟩ := q2 z
        refine ⟨a, d', y1, y2, fun i => ?_⟩
        have := y3 (i + 1)
        rw [show i + (j + 1) = i + 1 + j by omega]
        cases v <;> exact this
    · have hp' : p ∈ refS vs ks (i + 1) := by cases v <;> exact hp
      obtain ⟨q1, q2, q3, d', q4, q5⟩ := i3 (i + 1) p hp'
      refine ⟨by omega, q2, q3, d', ?_, ?_⟩
      · rw [show p.1 - i = (p.1 - (i + 1)) + 1 by omega]; simpa [mkEnv] using q4
      · rw [show p.1 - i = (p.1 - (i + 1)) + 1 by omega]; simpa using q5
  | _, _, _, .rf (a := a) (d := d) (vs := vs) (ks := ks) (ds := ds) ga w t, n, hn => by
    have hn' : ks.length ≤ n - 1 := by simp only [List.length_cons] at hn; omega
    obtain ⟨i1, i2, i3⟩ := entry t (n - 1) hn'
    have e0 : n - (V.ref a :: vs).length = n - 1 - vs.length := by simp only [List.length_cons]; omega
    rw [e0]
    refine ⟨by simpa [mkEnv] using i1, fun j s x e1 e2 => ?_, fun i p hp => ?_⟩
    · cases j with
      | zero =>
        have e1 : some (Sl.rf d) = some s := e1
        have e2 : some (some (V.ref a)) = some x := e2
        cases e1; cases e2
        exact ⟨⟨a, rfl, ga, w⟩, fun z => ⟨a, d, rfl, rfl, fun i => List.mem_cons_self⟩⟩
      | succ j =>
        obtain ⟨q1, q2⟩ := i2 j s x (by simpa [mkEnv] using e1) (by simpa using e2)
        refine ⟨q1, fun z => ?_⟩
        obtain ⟨a', d', y1, y2, y3⟩ := q2 z
        refine ⟨a', d', y1, y2, fun i => ?_⟩
        have := y3 (i + 1)
        rw [show i + (j + 1) = i + 1 + j by omega]
        exact List.mem_cons_of_mem _ this
    · rcases List.mem_cons.mp (show p ∈ (i, a) :: refS vs ks (i + 1) from hp) with rfl | hp'
      · obtain ⟨u, hu⟩ := w.ex
        refine ⟨Nat.le_refl _, (by show H a ≠ none; rw [hu]; simp), ga, d, ?_, ?_⟩
        · rw [Nat.sub_self]; rfl
        · rw [Nat.sub_self]; rfl
      · obtain ⟨q1, q2, q3, d', q4, q5⟩ := i3 (i + 1) p hp'
        refine ⟨by omega, q2, q3, d', ?_, ?_⟩
        · rw [show p.1 - i = (p.1 - (i + 1)) + 1 by omega]; simpa [mkEnv] using q4
        · rw [show p.1 - i = (p.1 - (i + 1)) + 1 by omega]; simpa using q5
theorem refS_uniq : ∀ {vs : List V} {ks : List Bool} {i : Nat}, (refA vs ks).Nodup → ∀ {p q : Nat × Addr}, p ∈ refS vs ks i → q ∈ refS vs ks i → p.2 = q.2 → p.1 = q.1
  | [], ks, i, _, p, q, h, _, _ => by cases ks <;> cases h
  | v :: vs, [], i, _, p, q, h, _, _ => by cases v <;> cases h
  | v :: vs, k :: ks, i, nd, p, q, hp, hq, e => by
    have sk : refS (v :: vs) (k :: ks) i = refS vs ks (i + 1) → refA (v :: vs) (k :: ks) = refA vs ks → p.1 = q.1 := fun z1 z2 => by
      rw [z1] at hp hq; rw [z2] at nd
      exact refS_uniq nd hp hq e
    cases k with
    | true =>
      cases v with
      | ref a =>
        have nd' := List.nodup_cons.mp (show (a :: refA vs ks).Nodup from nd)
        have mem : ∀ {r : Nat × Addr}, r ∈ refS vs ks (i + 1) → r.2 ∈ refA vs ks := fun {r} hr => by rw [← refS_addr (i := i + 1)]; exact List.mem_map_of_mem hr
        rcases List.mem_cons.mp (show p ∈ (i, a) :: refS vs ks (i + 1) from hp) with rfl | hp
        · rcases List.mem_cons.mp (show q ∈ (i, a) :: refS vs ks (i + 1) from hq) with rfl | hq
          · rfl
          · have z := mem hq; rw [← show a = q.2 from e] at z; exact absurd z nd'.1
        · rcases List.mem_cons.mp (show q ∈ (i, a) :: refS vs ks (i + 1) from hq) with rfl | hq
          · have z := mem hp; rw [show p.2 = a from e] at z; exact absurd z nd'.1
          · exact refS_uniq nd'.2 hp hq e
      | _ => exact sk rfl rfl
    | false => cases v <;> exact sk rfl rfl
theorem entry_ok {vs : List V} {ks : List Bool} {ds : List D} (s : Sub G H) (h : ArgOk K cl H G vs ks ds) (nd : (refA vs ks).Nodup) {n : Nat} (hn : ks.length ≤ n) :
    Ok K cl hx (refS vs ks 0) H G H G (vs.map some ++ List.replicate (n - vs.length) (none : Option V)) (mkEnv ks ds n) := by
  obtain ⟨i1, i2, i3⟩ := entry (hx := hx) h n hn
  refine ⟨i1, s, .refl G, fun b o e => .inl e, fun b o e _ => e, fun p hp => ?_, fun i s x e1 e2 => (i2 i s x e1 e2).1, fun i j s t a e1 e2 o1 o2 s1 s2 => ?_, fun p hp => ?_, fun i d e => ?_⟩
  · obtain ⟨_, q2, q3, _⟩ := i3 0 p hp
    exact ⟨q2, q3⟩
  · obtain ⟨a1, d1, _, z1, m1⟩ := (i2 i s _ e1 s1).2 o1
    obtain ⟨a2, d2, _, z2, m2⟩ := (i2 j t _ e2 s2).2 o2
    cases z1; cases z2
    have := refS_uniq nd (m1 0) (m2 0) rfl
    simpa using this
  · obtain ⟨_, _, _, d, q4, q5⟩ := i3 0 p hp
    exact ⟨d, by simpa using q4, by simpa using q5⟩
  · have hi : i < (vs.map some ++ List.replicate (n - vs.length) (none : Option V)).length := by rw [i1]; exact (List.getElem?_eq_some_iff.mp e).1
    obtain ⟨a, d', _, _, m⟩ := (i2 i _ _ e (List.getElem?_eq_getElem hi)).2 rfl
    exact ⟨(0 + i, a), m 0, by simp⟩
/-- the contents at the end -/
theorem end_ok {R : List (Nat × Addr)} {H0 G0 : Hp} {σ : L2.St} {δ : DEnv} (k : Ok K cl hx R H0 G0 H G σ δ) : ∀ (vs : List V) (ks : List Bool) (i : Nat) (rs : List D), vs.length = ks.length → (∀ p ∈ refS vs ks i, p ∈ R) → (∀ (j : Nat), ks[j]? = some true → ∃ a, vs[j]? = some (V.ref a)) → endR ks (δ.drop i) = some rs → RefOk K cl H G (refA vs ks) rs
  | [], [], i, rs, _, _, _, e => by cases e; exact .nil
  | [], _ :: _, i, rs, hl, _, _, _ => by cases hl
  | _ :: _, [], i, rs, hl, _, _, _ => by cases hl
  | v :: vs, b :: ks, i, rs, hl, hR, hv, e => by
    have hl' : vs.length = ks.length := by simpa using hl
    have hv' : ∀ (j : Nat), ks[j]? = some true → ∃ a, vs[j]? = some (V.ref a) := fun j hj => by
      obtain ⟨a, ha⟩ := hv (j + 1) (by simpa using hj)
      exact ⟨a, by simpa using ha⟩
    cases q : δ.drop i with
    | nil => rw [q] at e; cases b <;> cases e
    | cons s r =>
      rw [q] at e
      have hs : δ[i]? = some s := by
        have : (δ.drop i)[0]? = some s := by rw [q]; rfl
        rw [List.getElem?_drop] at this
        simpa using this
      have hr : δ.drop (i + 1) = r := by
        have : (δ.drop i).drop 1 = r := by rw [q]; rfl
        rw [List.drop_drop] at this
        exact this
      cases b with
      | false =>
        have e : endR ks r = some rs := e
        have hR' : ∀ p ∈ refS vs ks (i + 1), p ∈ R := fun p hp => hR p (by cases v <;> exact hp)
        have := end_ok k vs ks (i + 1) rs hl' hR' hv' (by rw [hr]; exact e)
        cases v <;> exact this
      | true =>
        obtain ⟨a, ha⟩ := hv 0 rfl
        have ha : v = .ref a := by simpa using ha
        subst ha
        simp only [endR, Option.bind_eq_some_iff, Option.map_eq_some_iff] at e
        obtain ⟨rs', e1, d, e2, rfl⟩ := e
        have hR' : ∀ p ∈ refS vs ks (i + 1), p ∈ R := fun p hp => hR p (List.mem_cons_of_mem _ hp)
        have ih := end_ok k vs ks (i + 1) rs' hl' hR' hv' (by rw [hr]; exact e1)
        have hp : (i, a) ∈ R := hR (i, a) List.mem_cons_self
        obtain ⟨d', q1, q2⟩ := k.refs (i, a) hp
        have q1 : δ[i]? = some (.rf d') := q1
        rw [hs] at q1
        cases q1
        cases e2
        obtain ⟨a', z, ga, w⟩ := k.sl i _ _ hs q2
        cases z
        exact .cons ga w ih
theorem ArgOk.refs {vs : List V} {ks : List Bool} {ds : List D} (h : ArgOk K cl H G vs ks ds) : ∀ (j : Nat), ks[j]? = some true → ∃ a, vs[j]? = some (V.ref a) := by
  induction h with
  | nil => intro j hj; cases hj
  | val _ _ ih =>
    intro j hj
    cases j with
    | zero => cases hj
    | succ j =>
      obtain ⟨a, ha⟩ := ih j (by simpa using hj)
      exact ⟨a, by simpa using ha⟩
  | rf _ _ _ ih =>
    intro j hj
    cases j with
    | zero => exact ⟨_, rfl⟩
    | succ j =>
      obtain ⟨a, ha⟩ := ih j (by simpa using hj)
      exact ⟨a, by simpa using ha⟩
/-- the step that a def was -/
theorem Ok.frm {vs : List V} {ks : List Bool} {H' G' : Hp} {σ : L2.St} {δ : DEnv} (k : Ok K cl hx (refS vs ks 0) H G H' G' σ δ) : Frm (refA vs ks) H G H' G' where
  gk := k.ext
  sub := k.sub
  kept := fun b o e hb => k.kept b o e fun p hp z => hb (by rw [← refS_addr (i := 0), ← z]; exact List.mem_map_of_mem hp)
  new := k.new
end
/-- the reading of a def's body -/
theorem def_read {P : Program} {w : World} {K : PySem.W.Frag} {mg : Str → Option Value} {base : Heap} {cl : Cw} {qual : Str} {st : Stmt} {f : Addr} {N ps : List Str} {k : Nat} {ks : List Bool} {F : DS} (S : FnScope N ps (defScope st)) (hk : ks.length = ps.length)
    (hbody : ∀ (cdv : Value) (A : Around) (outer : List Env) (s : Shared) (H : Hp) (E : XK), Room k (A.deeper (envOfC qual (defScope st) s.heap.objs.size f cdv)) →
      Takes (cxOf (L2.CX P w) P w K mg base N qual (defScope st) f cdv A outer s H E) (fun c d _ H => E c d H) →
      PassesOwn (model P w) (A.deeper (envOfC qual (defScope st) s.heap.objs.size f cdv)) (envOfC qual (defScope st) s.heap.objs.size f cdv) (cxOf (L2.CX P w) P w K mg base N qual (defScope st) f cdv A outer s H E).xe →
      JSs ⟨fun c d _ H => E c d H, cl, (0, none)⟩ (cxOf (L2.CX P w) P w K mg base N qual (defScope st) f cdv A outer s H E) (defBody st) F) :
    ∀ (cdv : Value) (A : Around) (outer : List Env) (s : Shared) (H : Hp) (vs : List V) (Q : VK) (E : XK), Room k (A.deeper (envOfC qual (defScope st) s.heap.objs.size f cdv)) → SpF K cl ks (defF ks N.length F) vs H Q E →
      ∃ t, PSs (cxOf (L2.CX P w) P w K mg base N qual (defScope st) f cdv A outer s H E) (defBody st) t ∧ t { nx := fun _ H' => Q .non H', rt := Q } (start N vs) H := by
  have hpl : ps.length ≤ N.length := by have := congrArg List.length S.pre; rw [List.length_take] at this; omega
  intro cdv A outer s H vs Q E hr h
  · obtain ⟨G, ds, sg, a, nd, h⟩ := h
    refine ⟨_, pssS _ _, ?_⟩
    have e0 : start N vs = vs.map some ++ List.replicate (N.length - vs.length) (none : Option V) := rfl
    have ok0 := entry_ok (hx := (0, none)) sg a nd (n := N.length) (by rw [hk]; exact hpl)
    rw [← e0] at ok0
    refine hbody cdv A outer s H E hr (takes_of rfl rfl rfl rfl) (passes_of rfl) (refS vs ks 0) H G H G _ _ _ ok0 ?_
    have hd : ds.length = ks.length := a.length.2
    unfold defF at h
    rw [if_pos hd] at h
    have fin : ∀ {H' G' : Hp} {σ : L2.St} {δ : DEnv} {rs : List D}, Ok K cl (0, none) (refS vs ks 0) H G H' G' σ δ → endR ks δ = some rs → RefOk K cl H' G' (refA vs ks) rs := fun {H' G' σ δ rs} k' e =>
      end_ok k' vs ks 0 rs a.length.1 (fun p hp => hp) a.refs (by rw [List.drop_zero]; exact e)
    cases q : F (mkEnv ks ds N.length) with
    | nx δ =>
      rw [q] at h
      simp only [toFO] at h
      cases q2 : endR ks δ with
      | none => rw [q2] at h; exact h.elim
      | some rs =>
        rw [q2] at h
        exact fun σ' H' G' s' k' => h .non H' G' k'.frm (fin k' q2) .non
    | rt d δ =>
      rw [q] at h
      simp only [toFO] at h
      cases q2 : endR ks δ with
      | none => rw [q2] at h; exact h.elim
      | some rs =>
        rw [q2] at h
        exact fun v σ' H' G' s' k' r => h v H' G' k'.frm (fin k' q2) r
    | ro d δ =>
      rw [q] at h
      simp only [toFO] at h
      cases q2 : endR ks δ with
      | none => rw [q2] at h; exact h.elim
      | some rs =>
        rw [q2] at h
        exact fun a σ' H' G' s' k' h0 ga ow => h a H' G' k'.frm (fin k' q2) h0 ga ow
    | ex cn ns es δ =>
      rw [q] at h
      simp only [toFO] at h
      cases q2 : endR ks δ with
      | none => rw [q2] at h; exact h.elim
      | some rs =>
        rw [q2] at h
        exact fun cls dd σ' H' G' s' k' xo => h cls dd H' G' k'.frm (fin k' q2) xo
    | bk δ => rw [q] at h; exact h.elim
    | ct δ => rw [q] at h; exact h.elim
    | st => rw [q] at h; exact h.elim
theorem spF_len {K : PySem.W.Frag} {cl : Cw} {ks : List Bool} {fn : List D → FO} {n : Nat} (hk : ks.length = n) : ∀ vs H Q E, SpF K cl ks fn vs H Q E → vs.length = n := fun vs H Q E h => by
  obtain ⟨G, ds, _, a, _⟩ := h
  rw [a.length.1, hk]
end DL

set_option maxRecDepth 100000
set_option maxHeartbeats 4000000
namespace DL
open PySem PySem.Spec PyProof.Rows L2

/-! ### what is walked -/
/-- J goes through ds, wherever G is frozen -/
def WalkOk (K : PySem.W.Frag) (cl : Cw) (G : Hp) (J : It) (ds : List D) : Prop := ∀ (H2 G2 : Hp), Sub G G2 → Sub G2 H2 → ∀ (i : Nat),
  (∀ d, ds[i]? = some d → J.go i H2 ∧ ∀ x H', J.yld i H2 x H' → ∃ G', Grow H2 G2 H' G' ∧ Rep K cl G' x d) ∧ (i = ds.length → J.stop i H2)
theorem WalkOk.mono {K : PySem.W.Frag} {cl : Cw} {G G' : Hp} {J : It} {ds : List D} (w : WalkOk K cl G J ds) (s : Sub G G') : WalkOk K cl G' J ds := fun H2 G2 s2 => w H2 G2 (s.trans s2)
def tI (X : Cx) (tg iter : Expr) : TI := fun σ H R => ∀ pins s, Inv X pins σ H s → wpAny (model X.prog X.w) X.A (eval iter X.env) (fun v s1 => wpAny (model X.prog X.w) X.A (pyIter v) (PIE X pins σ tg R) X.xe s1) X.xe s
theorem piS (X : Cx) (tg iter : Expr) : PI X tg iter (tI X tg iter) := ⟨fun pins s _ _ _ I h => h pins s I⟩
abbrev DI := DEnv → EO (List D)
def JI (c : Cf) (X : Cx) (tg iter : Expr) (F : DI) : Prop := ∀ (R : List (Nat × Addr)) (H0 G0 H G : Hp) (σ : L2.St) (δ : DEnv) (Q : It → Hp → Prop), (c.fx X R H0 G0).Ok H G σ δ → EPost (c.fx X R H0 G0) c.W σ (fun G' J ds => WalkOk X.K c.cl G' J ds) G (F δ) Q → tI X tg iter σ H Q
def rngD (lo hi : Int) : List D := (List.range (hi - lo).toNat).map fun i => D.int (lo + (i : Nat))
def dItems : D → Option (List D)
  | .lst ds => some ds
  | .tup ds => some ds
  | .tpn ds => some ds
  | .scr ns => some (ns.map D.int)
  | .rng i j => if -(2 ^ 62) ≤ i ∧ i < 2 ^ 62 ∧ -(2 ^ 62) ≤ j ∧ j < 2 ^ 62 then some (rngD i j) else none
  | .str x => some (x.cps.toList.map fun c => D.str ⟨#[c]⟩)
  | _ => none
def dIt (fe : DE) : DI := fun δ => (fe δ).bind fun d δ1 => match dItems d with
  | some ds => .ok ds δ1
  | none => .st
section
variable {K : PySem.W.Frag} {cl : Cw} {G : Hp}
theorem walk_lst {a : Addr} {xs : List V} {ds : List D} (h : SqL K G a xs) (r : RepL K cl G xs ds) : WalkOk K cl G (Itl K a) ds := fun H2 G2 s s2 i => by
  have hq : SqL K H2 a xs := (s.trans s2).sqL h
  refine ⟨fun d e => ?_, fun e => ⟨xs, hq, by rw [r.length, e]; exact Nat.le_refl _⟩⟩
  obtain ⟨v, hv, rv⟩ := r.get e
  refine ⟨⟨xs, v, hq, hv⟩, fun x H' y => ?_⟩
  obtain ⟨e1, y⟩ := y
  have z := y xs hq
  rw [hv] at z
  cases z
  rw [e1]
  exact ⟨G2, Grow.refl s2, rv.mono s⟩
theorem walk_tp {a : Addr} {xs : List V} {ds : List D} (h : SqT K G a xs) (r : RepL K cl G xs ds) : WalkOk K cl G (Itt K a) ds := fun H2 G2 s s2 i => by
  have hq : SqT K H2 a xs := (s.trans s2).sqT h
  refine ⟨fun d e => ?_, fun e => ⟨xs, hq, by rw [r.length, e]; exact Nat.le_refl _⟩⟩
  obtain ⟨v, hv, rv⟩ := r.get e
  refine ⟨⟨xs, v, hq, hv⟩, fun x H' y => ?_⟩
  obtain ⟨e1, y⟩ := y
  have z := y xs hq
  rw [hv] at z
  cases z
  rw [e1]
  exact ⟨G2, Grow.refl s2, rv.mono s⟩
theorem walk_st {x : Str} : WalkOk K cl G (Its x) (x.cps.toList.map fun c => D.str ⟨#[c]⟩) := fun H2 G2 s s2 i => by
  refine ⟨fun d e => ?_, fun e => by show x.cps.size ≤ i; rw [e]; simp⟩
  rw [List.getElem?_map, Array.getElem?_toList] at e
  cases q : x.cps[i]? with
  | none => rw [q] at e; cases e
  | some c =>
    rw [q] at e
    cases e
    refine ⟨(Array.getElem?_eq_some_iff.mp q).1, fun y H' hy => ?_⟩
    obtain ⟨e1, c', q', e2⟩ := hy
    rw [q] at q'
    cases q'
    rw [e1, e2]
    exact ⟨G2, Grow.refl s2, .str _⟩
theorem walk_rng {lo : Int} {n : Nat} : WalkOk K cl G (Itr lo n) ((List.range n).map fun i => D.int (lo + (i : Nat))) := fun H2 G2 s s2 i => by
  refine ⟨fun d e => ?_, fun e => by show n ≤ i; rw [e]; simp⟩
  rw [List.getElem?_map] at e
  by_cases hi : i < n
  · rw [List.getElem?_range hi] at e
    cases e
    refine ⟨hi, fun y H' hy => ?_⟩
    obtain ⟨e1, e2⟩ := hy
    rw [e1, e2]
    exact ⟨G2, Grow.refl s2, .int _⟩
  · rw [List.getElem?_eq_none (by simpa using hi)] at e
    cases e
end
/-- a list, a tuple or a text -/
def iSeq (K : PySem.W.Frag) (tl : TE) : TI := fun σ H R => tl σ H fun x H1 => (∃ a, x = .ref a ∧ ((∃ xs, SqL K H1 a xs) ∧ R (Itl K a) H1 ∨ (∃ xs, SqT K H1 a xs) ∧ R (Itt K a) H1)) ∨ (∃ z, x = .str z ∧ R (Its z) H1) ∨ ∃ a i j, x = .ref a ∧ H1 a = some (.rng i j) ∧ (-(2 ^ 62) ≤ i ∧ i < 2 ^ 62 ∧ -(2 ^ 62) ≤ j ∧ j < 2 ^ 62) ∧ R (Itr i (j - i).toNat) H1
section
variable {c : Cf} {X : Cx} {tg e : Expr} {fe : DE} {tl : TE} {pos : Pos}
theorem pi_seq (hl : PE X e tl) : PI X tg e (iSeq X.K tl) := by
  refine ⟨fun pins s σ H R I h => ?_⟩
  refine thn (hl.run pins s σ H _ I h) fun v s1 ⟨x, H1, I1, r1, q1⟩ => ?_
  rcases q1 with ⟨a, rfl, q1⟩ | ⟨z, rfl, q1⟩ | ⟨a, i, j, rfl, hr, ⟨b1, b2, b3, b4⟩, q⟩
  · have r1 : v = Value.ref a := r1
    subst r1
    rcases q1 with ⟨hx, q⟩ | ⟨hx, q⟩
    · obtain ⟨xs, hq⟩ := hx
      obtain ⟨its, rv, p, hz⟩ := I1.list hq
      refine wpAny_pyIter_list p.isList ?_
      refine ⟨s1.heap.objs.size, [s1.heap.objs.size], _, _, H1, rfl, I1.kept (t' := s1.toks) fun b o e => Heap.get?_push_of_some _ e, turn_list a _, ⟨_, Heap.get?_push_size _ rfl, rfl, rfl⟩, fun b hb => ?_, q⟩
      have e : b = s1.heap.objs.size := by simpa using hb
      subst e
      exact I1.fpOk (Nat.le_refl _) (I1.hok.fresh (Nat.le_refl _))
    · obtain ⟨xs, hq⟩ := hx
      obtain ⟨its, rv, p, hz⟩ := I1.tuple hq
      refine wpAny_pyIter_tuple (show s1.heap.IsTuple a its.toArray from p) ?_
      refine ⟨s1.heap.objs.size, [s1.heap.objs.size], _, _, H1, rfl, I1.kept (t' := s1.toks) fun b o e => Heap.get?_push_of_some _ e, turn_tuple a _, ⟨_, Heap.get?_push_size _ rfl, rfl, rfl⟩, fun b hb => ?_, q⟩
      have e : b = s1.heap.objs.size := by simpa using hb
      subst e
      exact I1.fpOk (Nat.le_refl _) (I1.hok.fresh (Nat.le_refl _))
  · obtain ⟨t, rfl⟩ : ∃ t, v = Value.str z t := r1
    cases ha : z.cps.all (· < 128)
    · exact wpAny_pyIter_wide ha (pi_one (tk := s1.toks) I1 _ (turn_str _ z t "str_iterator" (.inr rfl)) ⟨_, Heap.get?_push_size _ rfl, rfl, rfl⟩ q1)
    · exact wpAny_pyIter_ascii ha (pi_one (tk := s1.toks) I1 _ (turn_str _ z t "str_ascii_iterator" (.inl rfl)) ⟨_, Heap.get?_push_size _ rfl, rfl, rfl⟩ q1)
  · have r1 : v = Value.ref a := r1
    subst r1
    obtain ⟨t1, t2, t3, ho⟩ := I1.hok a _ hr
    refine wpAny_pyIter_range (show IsRange s1.heap a i j 1 t1 t2 t3 from ho) (small_one b1 b2 b3 b4) ?_
    refine ⟨s1.heap.objs.size, [s1.heap.objs.size], _, _, H1, rfl, I1.kept (t' := s1.toks) fun b o e => Heap.get?_push_of_some _ e, turn_range _ i (j - i).toNat, ?_, fun b hb => ?_, q⟩
    · have e1 : i + ((0 : Nat) : Int) * 1 = i := by simp
      have e2 : (((j - i).toNat : Nat) : Int) - ((0 : Nat) : Int) = Builtin.Range.rangeSize i j 1 := by rw [rangeSize_one]; split <;> omega
      show IsRangeIter _ _ (i + ((0 : Nat) : Int) * 1) ((((j - i).toNat : Nat) : Int) - ((0 : Nat) : Int)) 1
      rw [e1, e2]
      exact Heap.get?_push_size _ rfl
    · have e : b = s1.heap.objs.size := by simpa using hb
      subst e
      exact I1.fpOk (Nat.le_refl _) (I1.hok.fresh (Nat.le_refl _))
theorem ji_of {t : TI} {F : DI} (p : PI X tg e t) (h : ∀ (R : List (Nat × Addr)) (H0 G0 H G : Hp) (σ : L2.St) (δ : DEnv) (Q : It → Hp → Prop), (c.fx X R H0 G0).Ok H G σ δ → EPost (c.fx X R H0 G0) c.W σ (fun G' J ds => WalkOk X.K c.cl G' J ds) G (F δ) Q → t σ H Q) : JI c X tg e F :=
  fun R H0 G0 H G σ δ Q k h' pins s I => p.run pins s σ H Q I (h R H0 G0 H G σ δ Q k h')
theorem ji_seq (he : JE c X e fe) : JI c X tg e (dIt fe) := by
  refine ji_of (pi_seq (peS X e)) fun R H0 G0 H G σ δ Q k h => ?_
  refine he R H0 G0 H G σ δ _ k (EPost.imp (EPost.bind h) fun x H1 ⟨G1, d, δ1, s1, k1, r1, h1⟩ => ?_)
  cases r1 with
  | @lst a xs ds h2 r =>
    refine .inl ⟨a, rfl, .inl ⟨⟨xs, .inl (.inl (k1.sub _ _ h2))⟩, ?_⟩⟩
    exact h1 _ H1 G1 (.refl G1) k1 (walk_lst (.inl (.inl h2)) r)
  | @tup a xs ds h2 r =>
    refine .inl ⟨a, rfl, .inr ⟨⟨xs, k1.sub.sqT h2⟩, ?_⟩⟩
    exact h1 _ H1 G1 (.refl G1) k1 (walk_tp h2 r)
  | @tpn a ob xs ds h2 hd hc r =>
    have h3 : SqT X.K G1 a xs := .inl (.inr ⟨_, h2⟩)
    refine .inl ⟨a, rfl, .inr ⟨⟨xs, k1.sub.sqT h3⟩, ?_⟩⟩
    exact h1 _ H1 G1 (.refl G1) k1 (walk_tp h3 r)
  | @scr a ns h2 =>
    refine .inl ⟨a, rfl, .inl ⟨⟨_, k1.sub.sqL h2⟩, ?_⟩⟩
    exact h1 _ H1 G1 (.refl G1) k1 (walk_lst h2 (RepL.of_ints ns))
  | str x => exact .inr (.inl ⟨x, rfl, h1 _ H1 G1 (.refl G1) k1 walk_st⟩)
  | @rng a i j h2 =>
    by_cases hb : -(2 ^ 62) ≤ i ∧ i < 2 ^ 62 ∧ -(2 ^ 62) ≤ j ∧ j < 2 ^ 62
    · simp only [dItems, if_pos hb] at h1
      exact .inr (.inr ⟨a, i, j, rfl, k1.sub _ _ h2, hb, h1 _ H1 G1 (.refl G1) k1 walk_rng⟩)
    · simp only [dItems, if_neg hb] at h1; exact h1.elim
  | non => exact h1.elim
  | bl b => exact h1.elim
  | int i => exact h1.elim
  | dct _ _ _ => exact h1.elim
  | ins _ _ _ _ => exact h1.elim
  | set _ _ => exact h1.elim
  | exv0 _ _ => exact h1.elim
  | exv _ _ _ _ _ _ => exact h1.elim
def dRg1 (fa : DE) : DI := fun δ => (fa δ).bind fun x δ1 => match x with
  | .int j => if -(2 ^ 62) ≤ j ∧ j < 2 ^ 62 then .ok (rngD 0 j) δ1 else .st
  | _ => .st
def dRg2 (fa fb : DE) : DI := fun δ => (fa δ).bind fun x δ1 => (fb δ1).bind fun y δ2 => match x, y with
  | .int i, .int j => if -(2 ^ 62) ≤ i ∧ i < 2 ^ 62 ∧ -(2 ^ 62) ≤ j ∧ j < 2 ^ 62 then .ok (rngD i j) δ2 else .st
  | _, _ => .st
theorem ji_range1 {a : Expr} {p : Pos} {fa : DE} (hg : Gl X "range") (hm : X.mg "range" = none) (ha : JE c X a fa) (hs : starEach [a] X.env = [(false, eval a X.env)] := by rfl) : JI c X tg (.Call (.Name "range" p) [a] [] pos) (dRg1 fa) := by
  refine ji_of (pi_range1 hg hm (pa_cons (peS X a) pa_nil hs) hs) fun R H0 G0 H G σ δ Q k h => ?_
  refine ha R H0 G0 H G σ δ _ k (EPost.imp (EPost.bind h) fun x H1 ⟨G1, d, δ1, s1, k1, r1, h1⟩ => ?_)
  cases r1 with
  | int j =>
    by_cases hj : -(2 ^ 62) ≤ j ∧ j < 2 ^ 62
    · simp only [if_pos hj] at h1
      have w := walk_rng (K := X.K) (cl := c.cl) (G := G1) (lo := 0) (n := j.toNat)
      exact ⟨j, rfl, hj.1, hj.2, h1 (Itr 0 j.toNat) H1 G1 (.refl G1) k1 (by unfold rngD; rw [Int.sub_zero]; exact w)⟩
    · simp only [if_neg hj] at h1; exact h1.elim
  | _ => exact h1.elim
end

/-! ### targets -/
def tG (X : Cx) (tg : Expr) : TG := fun v σ H Q => ∀ pins s u, Inv X pins σ H s → RelV v u → wpAny (model X.prog X.w) X.A (assign tg X.env u) (fun _ s' => ∃ σ' H', Inv X pins σ' H' s' ∧ Q σ' H') X.xe s
theorem pgS (X : Cx) (tg : Expr) : PG X tg (tG X tg) := ⟨fun pins s _ _ _ u _ I r h => h pins s u I r⟩
def JG (c : Cf) (X : Cx) (tg : Expr) (ts : List Nat) (A : D → DEnv → Option DEnv) : Prop := ∀ (R : List (Nat × Addr)) (H0 G0 H G : Hp) (σ : L2.St) (δ δ' : DEnv) (v : V) (d : D) (Q : L2.St → Hp → Prop), (c.fx X R H0 G0).Ok H G σ δ → Rep X.K c.cl G v d → A d δ = some δ' →
  (∀ σ', (c.fx X R H0 G0).Ok H G σ' δ' → (∀ vs, (∀ i ∈ ts, i ∈ vs) → wipe σ' vs = wipe σ vs) → Q σ' H) → tG X tg v σ H Q
section
variable {c : Cf} {X : Cx} {tg e : Expr} {fe : DE} {tl : TE} {pos : Pos}
theorem wipe_set {σ : L2.St} {i : Nat} {x : Option V} : ∀ {vs : List Nat}, i ∈ vs → wipe (σ.set i x) vs = wipe σ vs
  | [], h => by cases h
  | v :: vs, h => by
    show (wipe (σ.set i x) vs).set v none = (wipe σ vs).set v none
    by_cases hi : i ∈ vs
    · rw [wipe_set hi]
    · have e : i = v := by
        rcases List.mem_cons.mp h with e | e
        · exact e
        · exact absurd e hi
      subst e
      have go : ∀ vs : List Nat, i ∉ vs → wipe (σ.set i x) vs = (wipe σ vs).set i x := by
        intro vs
        induction vs with
        | nil => intro _; rfl
        | cons w vs ih =>
          intro h
          have h1 : i ≠ w := fun z => h (z ▸ List.mem_cons_self)
          show (wipe (σ.set i x) vs).set w none = ((wipe σ vs).set w none).set i x
          rw [ih fun z => h (List.mem_cons_of_mem _ z), List.set_comm _ _ h1]
      rw [go vs hi, List.set_set]
theorem jg_name {i : Nat} (p : PG X tg (gName i)) : JG c X tg [i] (setV i) := fun R H0 G0 H G σ δ δ' v d Q k r e h pins s u I ru => p.run pins s σ H v u Q I ru (h _ (k.setV e r) fun vs hv => wipe_set (hv i List.mem_cons_self))
/-! ### for -/
def forL (A : D → DEnv → Option DEnv) (f : DS) : List D → DEnv → SO
  | [], δ => .nx δ
  | d :: ds, δ => match A d δ with
    | none => .st
    | some δ1 => match f δ1 with
      | .nx δ2 => forL A f ds δ2
      | .ct δ2 => forL A f ds δ2
      | .bk δ2 => .nx δ2
      | .rt x δ2 => .rt x δ2
      | .ro x δ2 => .ro x δ2
      | .ex c ns es δ2 => .ex c ns es δ2
      | .st => .st
def sFor (it : DI) (A : D → DEnv → Option DEnv) (f : DS) : DS := fun δ => (it δ).to fun ds δ1 => forL A f ds δ1
theorem js_for {ts : List Nat} {iter : Expr} {body : List Stmt} {it : DI} {A : D → DEnv → Option DEnv} {f : DS} (hp : PassesOwn (model X.prog X.w) X.A X.env X.xe) (hc : X.calm = true) (hi : JI c X tg iter it) (hg : JG c X tg ts A) (hb : JSs c X body f)
    (hs : ∀ x, foldedSetIterable iter X.env x = pure x := by intro _; rfl) : JS c X (.For tg iter body [] pos) (sFor it A f) := by
  refine js_of (ps_for hp hc (piS X tg iter) (pgS X tg) (pssS X body) hs) fun R H0 G0 H G σ δ D' k h => ?_
  refine hi R H0 G0 H G σ δ _ k (EPost.imp (SPost.ofE h) fun J H1 ⟨G1, ds, δ1, s1, k1, w, h1⟩ => ?_)
  refine ⟨fun i m σ' H' => m = ds.length - i ∧ i ≤ ds.length ∧ ∃ G' δ', Sub G1 G' ∧ (c.fx X R H0 G0).Ok H' G' σ' δ' ∧ SPost (c.fx X R H0 G0) c.W G' (forL A f (ds.drop i) δ') D', ⟨ds.length, by simp, Nat.zero_le _, G1, δ1, .refl G1, k1, by rw [List.drop_zero]; exact h1⟩, ?_⟩
  rintro i m σ2 H2 ⟨rfl, hi2, G2, δ2, s2, k2, h2⟩
  obtain ⟨w1, w2⟩ := w H2 G2 s2 k2.sub i
  by_cases hlt : i < ds.length
  · refine .inr ⟨(w1 ds[i] (List.getElem?_eq_getElem hlt)).1, fun σ' H' => i + 1 ≤ ds.length ∧ ∃ G' δ', Sub G1 G' ∧ (c.fx X R H0 G0).Ok H' G' σ' δ' ∧ SPost (c.fx X R H0 G0) c.W G' (forL A f (ds.drop (i + 1)) δ') D', fun σ' H' hN => ⟨ds.length - (i + 1), by omega, rfl, hN.1, hN.2⟩, fun x H3 y => ?_⟩
    obtain ⟨G3, gr, rx⟩ := (w1 ds[i] (List.getElem?_eq_getElem hlt)).2 x H3 y
    have k3 := k2.grow gr
    rw [List.drop_eq_getElem_cons hlt] at h2
    unfold forL at h2
    cases q : A ds[i] δ2 with
    | none => rw [q] at h2; exact h2.elim
    | some δ3 =>
      rw [q] at h2
      refine hg R H0 G0 H3 G3 σ2 δ2 δ3 x ds[i] _ k3 rx q fun σ3 k4 _ => ?_
      refine hb R H0 G0 H3 G3 σ3 δ3 _ k4 ?_
      have s3 := s2.trans gr.gk
      cases q2 : f δ3 with
      | nx δ4 => simp only [q2] at h2; exact fun σ' H' G' s' k' => ⟨hlt, G', δ4, s3.trans s', k', SPost.weak (gr.gk.trans s') h2⟩
      | ct δ4 => simp only [q2] at h2; exact fun σ' H' G' s' k' => ⟨hlt, G', δ4, s3.trans s', k', SPost.weak (gr.gk.trans s') h2⟩
      | bk δ4 => simp only [q2] at h2; exact fun σ' H' G' s' k' => h2 σ' H' G' (gr.gk.trans s') k'
      | rt x' δ4 => simp only [q2] at h2; exact fun v σ' H' G' s' k' r => h2 v σ' H' G' (gr.gk.trans s') k' r
      | ro x' δ4 => simp only [q2] at h2; exact fun v σ' H' G' s' k' r => h2 v σ' H' G' (gr.gk.trans s') k' r
      | ex cn ns es δ4 => simp only [q2] at h2; exact fun cls dd σ' H' G' s' k' xo => h2 cls dd σ' H' G' (gr.gk.trans s') k' xo
      | st => simp only [q2] at h2; exact h2.elim
  · have e : i = ds.length := by omega
    rw [e, List.drop_eq_nil_of_le (Nat.le_refl _)] at h2
    exact .inl ⟨w2 e, h2 σ2 H2 G2 (.refl G2) k2⟩

/-! ### while -/
end
end DL

set_option maxRecDepth 100000
set_option maxHeartbeats 4000000
namespace DL
open PySem PySem.Spec PyProof.Rows L2

/-! ### an owned variable is frozen ahead -/
section
variable {c : Cf} {X : Cx} {tg e : Expr} {fe : DE} {pos : Pos}
theorem FPost.weak {f : Fx} {W : WX} {σ : L2.St} {G G' : Hp} {o : EO D} {Q : VK} (s : Sub G G') (h : FPost f W σ G o Q) : FPost f W σ G' o Q := by
  cases o with
  | ok d δ => exact fun a H' G'' s' => h a H' G'' (s.trans s')
  | ex c ns ds δ => exact fun cls dd H' G'' s' => h cls dd H' G'' (s.trans s')
  | st => exact h
end

/-! ### the block of a comprehension -/
/-- the slots within: its own names unset, owned ones by reference -/
def blkEnv (vs : List Nat) (δ : DEnv) : DEnv := (List.range δ.length).map fun i => if i ∈ vs then .un else match δ[i]? with
  | some (.own d) => .rf d
  | some s => s
  | none => .un
/-- back: the contents of owned slots -/
def backEnv (δ δ' : DEnv) : DEnv := (List.range δ.length).map fun i => match δ[i]? with
  | some s => if isO s then (match δ'[i]? with | some t => (match t.cont with | some d => s.put d | none => s) | none => s) else s
  | none => .un
/-- none of the block's own names is owned outside -/
def vsFree (vs : List Nat) (δ : DEnv) : Bool := vs.all fun i => match δ[i]? with
  | some s => !isO s
  | none => true
def refsOf (σ : L2.St) (δ : DEnv) : List (Nat × Addr) := (List.range δ.length).filterMap fun i => match δ[i]?, σ[i]? with
  | some s, some (some (V.ref a)) => if isO s then some (i, a) else none
  | _, _ => none
section
variable {K : PySem.W.Frag} {cl : Cw} {hx : Addr × Option Addr} {R : List (Nat × Addr)} {H0 G0 H G H' G' : Hp} {σ : L2.St} {δ : DEnv} {vs : List Nat}
theorem blkEnv_at {i : Nat} (hi : i < δ.length) : (blkEnv vs δ)[i]? = some (if i ∈ vs then .un else match δ[i] with | .own d => .rf d | s => s) := by
  unfold blkEnv
  rw [List.getElem?_map, List.getElem?_range hi]
  show some (if i ∈ vs then Sl.un else match δ[i]? with | some (.own d) => .rf d | some s => s | none => .un) = _
  rw [List.getElem?_eq_getElem hi]
  congr 1
  split
  · rfl
  · cases δ[i] <;> rfl
theorem backEnv_at {δ' : DEnv} {i : Nat} (hi : i < δ.length) : (backEnv δ δ')[i]? = some (if isO δ[i] then (match δ'[i]? with | some t => (match t.cont with | some d => δ[i].put d | none => δ[i]) | none => δ[i]) else δ[i]) := by
  unfold backEnv
  rw [List.getElem?_map, List.getElem?_range hi]
  show some (match δ[i]? with | some s => if isO s then (match δ'[i]? with | some t => (match t.cont with | some d => s.put d | none => s) | none => s) else s | none => .un) = _
  rw [List.getElem?_eq_getElem hi]
theorem mem_refsOf {p : Nat × Addr} : p ∈ refsOf σ δ ↔ ∃ s, δ[p.1]? = some s ∧ isO s = true ∧ σ[p.1]? = some (some (.ref p.2)) := by
  unfold refsOf
  rw [List.mem_filterMap]
  constructor
  · rintro ⟨i, hi, e⟩
    split at e
    · rename_i s a e1 e2
      split at e
      · rename_i ho
        cases e
        exact ⟨s, e1, ho, e2⟩
      · cases e
    · cases e
  · rintro ⟨s, e1, e2, e3⟩
    refine ⟨p.1, List.mem_range.mpr (List.getElem?_eq_some_iff.mp e1).1, ?_⟩
    rw [e1, e3]
    show (if isO s = true then some (p.1, p.2) else none) = some p
    rw [if_pos e2]
theorem wipe_in {σ : L2.St} {i : Nat} : ∀ {vs : List Nat}, i ∈ vs → i < σ.length → (wipe σ vs)[i]? = some none
  | [], h, _ => by cases h
  | v :: vs, h, hl => by
    show ((wipe σ vs).set v none)[i]? = some none
    by_cases e : v = i
    · subst e
      rw [List.getElem?_set_self (by rw [wipe_length]; exact hl)]
    · rw [List.getElem?_set_ne e]
      rcases List.mem_cons.mp h with z | z
      · exact absurd z.symm e
      · exact wipe_in z hl
theorem wipe_out {σ : L2.St} {i : Nat} : ∀ {vs : List Nat}, i ∉ vs → (wipe σ vs)[i]? = σ[i]?
  | [], _ => rfl
  | v :: vs, h => by
    show ((wipe σ vs).set v none)[i]? = σ[i]?
    rw [List.getElem?_set_ne (show v ≠ i from fun z => h (by rw [z]; exact List.mem_cons_self))]
    exact wipe_out fun z => h (List.mem_cons_of_mem _ z)
/-- the block begins -/
theorem Ok.block (k : Ok K cl hx R H0 G0 H G σ δ) (hv : vsFree vs δ = true) : Ok K cl hx (refsOf σ δ) H G H G (wipe σ vs) (blkEnv vs δ) := by
  have lb : (blkEnv vs δ).length = δ.length := by simp [blkEnv]
  have nv : ∀ {i : Nat} {s : Sl}, δ[i]? = some s → isO s = true → i ∉ vs := fun {i s} e o hi => by
    have := List.all_eq_true.mp hv i hi
    rw [e] at this
    simp [o] at this
  have at_ : ∀ {i : Nat} {s : Sl}, (blkEnv vs δ)[i]? = some s → ∃ s0, δ[i]? = some s0 ∧ ((i ∈ vs ∧ s = .un) ∨ (i ∉ vs ∧ s = (match s0 with | .own d => .rf d | s => s))) := fun {i s} e => by
    have hi : i < δ.length := by rw [← lb]; exact (List.getElem?_eq_some_iff.mp e).1
    rw [blkEnv_at hi] at e
    refine ⟨δ[i], List.getElem?_eq_getElem hi, ?_⟩
    by_cases h : i ∈ vs
    · rw [if_pos h] at e; cases e; exact .inl ⟨h, rfl⟩
    · rw [if_neg h] at e; cases e; exact .inr ⟨h, rfl⟩
  have oO : ∀ {i : Nat} {s : Sl}, (blkEnv vs δ)[i]? = some s → isO s = true → ∃ s0, δ[i]? = some s0 ∧ isO s0 = true ∧ i ∉ vs := fun {i s} e o => by
    obtain ⟨s0, e0, h | ⟨h, z⟩⟩ := at_ e
    · rw [h.2] at o; cases o
    · refine ⟨s0, e0, ?_, h⟩
      cases s0 with
      | own d => rfl
      | rf d => rfl
      | un => rw [z] at o; cases o
      | val d => rw [z] at o; cases o
      | exc c ns ds => rw [z] at o; cases o
  refine ⟨by rw [wipe_length, lb]; exact k.len, k.sub, .refl G, fun b o e => .inl e, fun b o e _ => e, fun p hp => ?_, fun i s x e1 e2 => ?_, fun i j s t a e1 e2 o1 o2 s1 s2 => ?_, fun p hp => ?_, fun i d e => ?_⟩
  · obtain ⟨s, e1, o, e2⟩ := mem_refsOf.mp hp
    obtain ⟨a, d, q1, q2, q3, _⟩ := (k.sl _ s _ e1 e2).ex o
    cases q1
    obtain ⟨u, hu⟩ := q3.ex
    exact ⟨by rw [hu]; simp, q2⟩
  · obtain ⟨s0, e0, h | ⟨h, z⟩⟩ := at_ e1
    · rw [h.2]; trivial
    · rw [wipe_out h] at e2
      have q := k.sl i s0 x e0 e2
      rw [z]
      cases s0 with
      | un => trivial
      | val d => exact q
      | own d => obtain ⟨a, q1, q2, _, q4⟩ := q; exact ⟨a, q1, q2, q4⟩
      | rf d => exact q
      | exc c ns ds => exact q
  · obtain ⟨s0, e3, o3, n3⟩ := oO e1 o1
    obtain ⟨t0, e4, o4, n4⟩ := oO e2 o2
    rw [wipe_out n3] at s1
    rw [wipe_out n4] at s2
    exact k.sep i j s0 t0 a e3 e4 o3 o4 s1 s2
  · obtain ⟨s, e1, o, e2⟩ := mem_refsOf.mp hp
    have hi : p.1 < δ.length := (List.getElem?_eq_some_iff.mp e1).1
    have n := nv e1 o
    rw [blkEnv_at hi, if_neg n, wipe_out n]
    have e0 : δ[p.1] = s := by rw [List.getElem?_eq_getElem hi] at e1; exact Option.some.inj e1
    rw [e0]
    cases s with
    | own d => exact ⟨d, rfl, e2⟩
    | rf d => exact ⟨d, rfl, e2⟩
    | un => cases o
    | val d => cases o
    | exc c ns ds => cases o
  · obtain ⟨s0, e0, o0, n0⟩ := oO e rfl
    obtain ⟨x, ex, q⟩ := k.at e0
    obtain ⟨a, d', q1, _⟩ := q.ex o0
    exact ⟨(i, a), mem_refsOf.mpr ⟨s0, e0, o0, by rw [ex, q1]⟩, rfl⟩
/-- the block's turn ends -/
theorem Ok.unblock (k : Ok K cl hx R H0 G0 H G σ δ) (hv : vsFree vs δ = true) {σ2 : L2.St} {δ2 : DEnv} (hσ : wipe σ2 vs = wipe σ vs) (k2 : Ok K cl hx (refsOf σ δ) H G H' G' σ2 δ2) :
    Frm ((refsOf σ δ).map (·.2)) H G H' G' ∧ Ok K cl hx R H0 G0 H' G' σ (backEnv δ δ2) := by
  have fr : Frm ((refsOf σ δ).map (·.2)) H G H' G' := ⟨k2.ext, k2.sub, fun b o e hb => k2.kept b o e fun p hp z => hb (List.mem_map.mpr ⟨p, hp, z⟩), k2.new⟩
  refine ⟨fr, k.frame fr (by simp [backEnv]) (fun i s e o => ?_) (fun i s a e o es => ?_) fun a ha => ?_⟩
  · have hi : i < δ.length := (List.getElem?_eq_some_iff.mp e).1
    have e0 : δ[i] = s := by rw [List.getElem?_eq_getElem hi] at e; exact Option.some.inj e
    rw [backEnv_at hi, e0, o]
    rfl
  · have hi : i < δ.length := (List.getElem?_eq_some_iff.mp e).1
    have e0 : δ[i] = s := by rw [List.getElem?_eq_getElem hi] at e; exact Option.some.inj e
    have hp : (i, a) ∈ refsOf σ δ := mem_refsOf.mpr ⟨s, e, o, es⟩
    obtain ⟨d, q1, q2⟩ := k2.refs (i, a) hp
    have q1 : δ2[i]? = some (.rf d) := q1
    obtain ⟨a', z, ga, w⟩ := k2.sl i _ _ q1 q2
    cases z
    refine ⟨d, ?_, ga, w⟩
    rw [backEnv_at hi, e0, o, q1]
    rfl
  · obtain ⟨p, hp, rfl⟩ := List.mem_map.mp ha
    obtain ⟨s, e1, o, e2⟩ := mem_refsOf.mp hp
    exact ⟨p.1, s, e1, o, e2⟩
/-- an object that no slot holds is written -/
theorem Ok.updNew (k : Ok K cl hx R H0 G0 H G σ δ) {p : Addr} {o u : HO} (hp : H p = some u) (gp : G p = none) (h0 : H0 p = none) (hs : ∀ (j : Nat) (t : Sl), δ[j]? = some t → isO t = true → σ[j]? ≠ some (some (.ref p))) : Ok K cl hx R H0 G0 (upd H p o) G σ δ := by
  refine ⟨k.len, fun b v e => by rw [upd_ne (ne_of_none e gp)]; exact k.sub b v e, k.ext, k.new, fun b v e hR => by rw [upd_ne (ne_of_none e h0)]; exact k.kept b v e hR, k.rfree, fun i s x e1 e2 => ?_, k.sep, k.refs, k.rfs⟩
  have q := k.sl i s x e1 e2
  have ne : ∀ b, x = some (.ref b) → isO s = true → b ≠ p := fun b hb hO z => by
    subst z; subst hb
    exact hs i s e1 hO e2
  cases s with
  | un => trivial
  | val d => exact q
  | own d => obtain ⟨b, q1, q2, q3, q4⟩ := q; exact ⟨b, q1, q2, q3, q4.mono (.refl G) fun o z => by rw [upd_ne (ne b q1 rfl)]; exact z⟩
  | rf d => obtain ⟨b, q1, q2, q4⟩ := q; exact ⟨b, q1, q2, q4.mono (.refl G) fun o z => by rw [upd_ne (ne b q1 rfl)]; exact z⟩
  | exc c ns ds => exact q
end

/-! ### [elt for target in iter if ..] -/
def compL (A : D → DEnv → Option DEnv) (t : DT) (el : DE) (vs : List Nat) : List D → DEnv → List D → EO D
  | [], δ, acc => .ok (.lst acc) δ
  | d :: ds, δ, acc => if vsFree vs δ = true then match A d (blkEnv vs δ) with
      | none => .st
      | some δ1 => match t δ1 with
        | .ok false δ2 => compL A t el vs ds (backEnv δ δ2) acc
        | .ok true δ2 => (match el δ2 with
          | .ok x δ3 => if acc.length < sizeLine then compL A t el vs ds (backEnv δ δ3) (acc ++ [x]) else .st
          | _ => .st)
        | _ => .st
    else .st
def dComp (it : DI) (A : D → DEnv → Option DEnv) (t : DT) (el : DE) (vs : List Nat) : DE := fun δ => (it δ).bind fun ds δ1 => compL A t el vs ds δ1 []
def Cf.nox (c : Cf) : Cf := { c with W := fun _ _ _ _ => False }
def tTs (X : Cx) (ifs : List Expr) : TT := fun σ H Q => ∀ pins s, Inv X pins σ H s →
    wpAny (model X.prog X.w) X.A (forIn ifs true fun c r => if r = true then do let ok ← isTrue c X.env (eval c X.env); pure (ForInStep.yield ok) else pure (ForInStep.yield r)) (TP X pins σ Q) X.xe s
def JTs (c : Cf) (X : Cx) (ifs : List Expr) (F : DT) : Prop := ∀ (R : List (Nat × Addr)) (H0 G0 H G : Hp) (σ : L2.St) (δ : DEnv) (Q : Bool → Hp → Prop), (c.fx X R H0 G0).Ok H G σ δ → EPost (c.fx X R H0 G0) c.W σ relB G (F δ) Q → tTs X ifs σ H Q
def bG (X : Cx) (scope : Scope) (tg : Expr) : TG := fun v σ H Q => ∀ (s : Shared) (H1 : Hp) (C : Addr) (cl : List (Str × Addr)) (fp : List Addr), tG (X.blk s H1 scope (compEnvC scope cl C X.env) fp) tg v σ H Q
def bT (X : Cx) (scope : Scope) (ifs : List Expr) : TT := fun σ H Q => ∀ (s : Shared) (H1 : Hp) (C : Addr) (cl : List (Str × Addr)) (fp : List Addr), tTs (X.blk s H1 scope (compEnvC scope cl C X.env) fp) ifs σ H Q
def bE (X : Cx) (scope : Scope) (elt : Expr) : TE := fun σ H Q => ∀ (s : Shared) (H1 : Hp) (C : Addr) (cl : List (Str × Addr)) (fp : List Addr), tE (X.blk s H1 scope (compEnvC scope cl C X.env) fp) elt σ H Q
theorem pgB (X : Cx) (scope : Scope) (tg : Expr) : ∀ (s : Shared) (H : Hp) (C : Addr) (cl : List (Str × Addr)) (fp : List Addr), PG (X.blk s H scope (compEnvC scope cl C X.env) fp) tg (bG X scope tg) :=
  fun s' H' C cl fp => ⟨fun pins s _ _ _ u _ I r h => h s' H' C cl fp pins s u I r⟩
theorem ptB (X : Cx) (scope : Scope) (ifs : List Expr) : ∀ (s : Shared) (H : Hp) (C : Addr) (cl : List (Str × Addr)) (fp : List Addr), PTs (X.blk s H scope (compEnvC scope cl C X.env) fp) ifs (bT X scope ifs) :=
  fun s' H' C cl fp => ⟨fun pins s _ _ _ I h => h s' H' C cl fp pins s I⟩
theorem peB (X : Cx) (scope : Scope) (elt : Expr) : ∀ (s : Shared) (H : Hp) (C : Addr) (cl : List (Str × Addr)) (fp : List Addr), PE (X.blk s H scope (compEnvC scope cl C X.env) fp) elt (bE X scope elt) :=
  fun s' H' C cl fp => ⟨fun pins s _ _ _ I h => h s' H' C cl fp pins s I⟩
def dYes : DT := fun δ => .ok true δ
section
variable {c : Cf} {X : Cx} {tg e : Expr} {pos : Pos}
theorem jts_nil : JTs c X [] dYes := fun R H0 G0 H G σ δ Q k h pins s I => pts_nil.run pins s σ H Q I (h true H G (.refl G) k rfl)
theorem jts_one {t : DT} (ht : JT c X e t) : JTs c X [e] t := fun R H0 G0 H G σ δ Q k h pins s I => (pts_one (ptS X e)).run pins s σ H Q I (ht R H0 G0 H G σ δ Q k h)
theorem lc_ok {elt iter : Expr} {ifs : List Expr} {scope : Scope} {vs ts : List Nat} {it : DI} {A : D → DEnv → Option DEnv} {t : DT} {el : DE} (hi : JI c X tg iter it) (hts : ∀ i ∈ ts, i ∈ vs)
    (hg : ∀ (s : Shared) (H : Hp) (C : Addr) (cl : List (Str × Addr)) (fp : List Addr), JG c.nox (X.blk s H scope (compEnvC scope cl C X.env) fp) tg ts A)
    (ht : ∀ (s : Shared) (H : Hp) (C : Addr) (cl : List (Str × Addr)) (fp : List Addr), JTs c.nox (X.blk s H scope (compEnvC scope cl C X.env) fp) ifs t)
    (he : ∀ (s : Shared) (H : Hp) (C : Addr) (cl : List (Str × Addr)) (fp : List Addr), JE c.nox (X.blk s H scope (compEnvC scope cl C X.env) fp) elt el)
    {R : List (Nat × Addr)} {H0 G0 H G : Hp} {σ : L2.St} {δ : DEnv} {Q : VK} (k : (c.fx X R H0 G0).Ok H G σ δ) (h : FPost (c.fx X R H0 G0) c.W σ G (dComp it A t el vs δ) Q) :
    tLc (tI X tg iter) (bG X scope tg) (bT X scope ifs) (bE X scope elt) vs σ H Q := by
  refine hi R H0 G0 H G σ δ _ k (EPost.imp (FPost.bind (rel := fun _ _ _ => True) h) fun J H1 ⟨G1, ds, δ1, s1, k1, w, h1⟩ => ?_)
  intro Dn nD
  refine ⟨fun i m H' => m = ds.length - i ∧ i ≤ ds.length ∧ ∃ G' δ' accV acc, Sub G1 G' ∧ (c.fx X R H0 G0).Ok H' G' σ δ' ∧ H' Dn = some (.lst accV) ∧ RepL X.K c.cl G' accV acc ∧ G' Dn = none ∧ H0 Dn = none ∧
    (∀ (j : Nat) (t : Sl), δ'[j]? = some t → isO t = true → σ[j]? ≠ some (some (.ref Dn))) ∧ FPost (c.fx X R H0 G0) c.W σ G' (compL A t el vs (ds.drop i) δ' acc) Q, ⟨ds.length, by simp, Nat.zero_le _, G1, δ1, [], [], .refl G1, ?_, upd_same, .nil, k1.freshG nD, k1.freshH0 nD, fun j t e o => k1.freshSl nD e o, by rw [List.drop_zero]; exact h1⟩, ?_⟩
  · exact k1.grow (Grow.fresh k1.sub nD (.lst []))
  rintro i m H2 ⟨rfl, hi2, G2, δ2, accV, acc, s2, k2, hD, racc, gD, h0D, hsD, h2⟩
  obtain ⟨w1, w2⟩ := w H2 G2 s2 k2.sub i
  by_cases hlt : i < ds.length
  · refine .inr ⟨(w1 ds[i] (List.getElem?_eq_getElem hlt)).1, fun H' => i + 1 ≤ ds.length ∧ ∃ G' δ' accV acc, Sub G1 G' ∧ (c.fx X R H0 G0).Ok H' G' σ δ' ∧ H' Dn = some (.lst accV) ∧ RepL X.K c.cl G' accV acc ∧ G' Dn = none ∧ H0 Dn = none ∧
      (∀ (j : Nat) (t : Sl), δ'[j]? = some t → isO t = true → σ[j]? ≠ some (some (.ref Dn))) ∧ FPost (c.fx X R H0 G0) c.W σ G' (compL A t el vs (ds.drop (i + 1)) δ' acc) Q, fun H' hN => ⟨ds.length - (i + 1), by omega, rfl, hN.1, hN.2⟩, fun x H3 y => ?_⟩
    obtain ⟨G3, gr, rx⟩ := (w1 ds[i] (List.getElem?_eq_getElem hlt)).2 x H3 y
    have k3 := k2.grow gr
    have hD3 : H3 Dn = some (.lst accV) := gr.hk _ _ hD
    have gD3 : G3 Dn = none := by
      cases e : G3 Dn with
      | none => rfl
      | some u =>
        rcases gr.gn Dn u e with z | z
        · rw [gD] at z; cases z
        · rw [hD] at z; cases z
    rw [List.drop_eq_getElem_cons hlt] at h2
    unfold compL at h2
    cases hv : vsFree vs δ2 with
    | false => rw [hv] at h2; exact h2.elim
    | true =>
      rw [hv] at h2
      simp only [if_true] at h2
      cases q : A ds[i] (blkEnv vs δ2) with
      | none => simp only [q] at h2; exact h2.elim
      | some δ3 =>
        simp only [q] at h2
        have kb := k3.block hv
        intro ss HH CC cc ff
        refine hg ss HH CC cc ff (refsOf σ δ2) H3 G3 H3 G3 (wipe σ vs) (blkEnv vs δ2) δ3 x ds[i] _ kb rx q fun σ4 k4 hw => ?_
        have hw' : wipe σ4 vs = wipe σ vs := by
          rw [hw vs hts]
          have go : ∀ (l : List Nat), (∀ j ∈ l, j ∈ vs) → wipe (wipe σ vs) l = wipe σ vs := by
            intro l
            induction l with
            | nil => intro _; rfl
            | cons j l ih =>
              intro hl
              show (wipe (wipe σ vs) l).set j none = wipe σ vs
              rw [ih fun z hz => hl z (List.mem_cons_of_mem _ hz)]
              refine List.ext_getElem? fun n => ?_
              by_cases hn : j = n
              · subst hn
                by_cases hj : j < (wipe σ vs).length
                · rw [List.getElem?_set_self hj, wipe_in (hl j List.mem_cons_self) (by rw [wipe_length] at hj; exact hj)]
                · rw [List.getElem?_eq_none (by simpa using hj), List.getElem?_eq_none (by simpa using hj)]
              · rw [List.getElem?_set_ne hn]
          exact go vs fun _ z => z
        -- the turn's end
        have fin : ∀ {H5 G5 : Hp} {δ5 : DEnv}, Sub G3 G5 → DL.Ok X.K c.cl c.hx (refsOf σ δ2) H3 G3 H5 G5 σ4 δ5 → (c.fx X R H0 G0).Ok H5 G5 σ (backEnv δ2 δ5) ∧ H5 Dn = some (.lst accV) ∧ G5 Dn = none ∧ (∀ (j : Nat) (t : Sl), (backEnv δ2 δ5)[j]? = some t → isO t = true → σ[j]? ≠ some (some (.ref Dn))) := fun {H5 G5 δ5} s5 k5 => by
          obtain ⟨fr, k6⟩ := k3.unblock hv hw' k5
          refine ⟨k6, fr.kept _ _ hD3 fun hm => ?_, ?_, fun j u e o => ?_⟩
          · obtain ⟨p, hp, e⟩ := List.mem_map.mp hm
            obtain ⟨s, e1, o, e2⟩ := mem_refsOf.mp hp
            rw [e] at e2
            exact hsD p.1 s e1 o e2
          · cases e : G5 Dn with
            | none => rfl
            | some u =>
              rcases fr.new Dn u e with z | z
              · rw [gD3] at z; cases z
              · rw [hD3] at z; cases z
          · have hj : j < δ2.length := by
              have := (List.getElem?_eq_some_iff.mp e).1
              simpa [backEnv] using this
            have e0 := backEnv_at (δ' := δ5) hj
            rw [e] at e0
            have e0 := Option.some.inj e0
            refine hsD j δ2[j] (List.getElem?_eq_getElem hj) ?_
            cases ho : isO δ2[j] with
            | true => rfl
            | false => rw [ho] at e0; simp only [Bool.false_eq_true, if_false] at e0; rw [e0, ho] at o; cases o
        refine ⟨hw', ?_⟩
        intro ss2 HH2 CC2 cc2 ff2
        refine ht ss2 HH2 CC2 cc2 ff2 (refsOf σ δ2) H3 G3 H3 G3 σ4 δ3 _ k4 ?_
        cases q2 : t δ3 with
        | ok b δ4 =>
          intro b' H5 G5 s5 k5 rb
          have rb : b' = b := rb
          subst rb
          cases b' with
          | false =>
            simp only [q2] at h2
            simp only [Bool.false_eq_true, if_false]
            obtain ⟨k6, d6, g6, n6⟩ := fin s5 k5
            exact ⟨hlt, G5, _, accV, acc, (s2.trans gr.gk).trans s5, k6, d6, racc.mono (gr.gk.trans s5), g6, h0D, n6, FPost.weak (gr.gk.trans s5) h2⟩
          | true =>
            simp only [q2] at h2
            simp only [if_true]
            intro ss3 HH3 CC3 cc3 ff3
            refine he ss3 HH3 CC3 cc3 ff3 (refsOf σ δ2) H3 G3 H5 G5 σ4 δ4 _ k5 ?_
            cases q3 : el δ4 with
            | ok z δ5 =>
              simp only [q3] at h2
              intro y' H6 G6 s6 k6 ry
              by_cases hz : acc.length < sizeLine
              · rw [if_pos hz] at h2
                obtain ⟨k7, d7, g7, n7⟩ := fin (s5.trans s6) k6
                have sg := (gr.gk.trans s5).trans s6
                refine ⟨accV, d7, by rw [racc.length]; exact hz, hlt, G6, _, accV ++ [y'], acc ++ [z], (s2.trans sg), k7.updNew d7 g7 h0D n7, upd_same, (racc.mono sg).append (.cons ry .nil), g7, h0D, n7, FPost.weak sg h2⟩
              · rw [if_neg hz] at h2; exact h2.elim
            | ex cn ns es δ5 => simp only [q3] at h2; exact h2.elim
            | st => simp only [q3] at h2; exact h2.elim
        | ex cn ns es δ4 => simp only [q2] at h2; exact h2.elim
        | st => simp only [q2] at h2; exact h2.elim
  · have e : i = ds.length := by omega
    rw [e, List.drop_eq_nil_of_le (Nat.le_refl _)] at h2
    exact .inl ⟨w2 e, h2 Dn H2 G2 (.refl G2) k2 gD h0D ⟨accV, hD, racc⟩ hsD⟩
theorem jf_comp {elt iter : Expr} {ifs : List Expr} {scope : Scope} {own : List (Str × Nat)} {ts : List Nat} {it : DI} {A : D → DEnv → Option DEnv} {t : DT} {el : DE} (hc : X.calm = true) (hN : X.N.Nodup) (hi : JI c X tg iter it) (ok : BlkOk X.N X.env.scope scope own)
    (hts : ∀ i ∈ ts, i ∈ own.map (·.2))
    (hg : ∀ (s : Shared) (H : Hp) (C : Addr) (cl : List (Str × Addr)) (fp : List Addr), JG c.nox (X.blk s H scope (compEnvC scope cl C X.env) fp) tg ts A)
    (ht : ∀ (s : Shared) (H : Hp) (C : Addr) (cl : List (Str × Addr)) (fp : List Addr), JTs c.nox (X.blk s H scope (compEnvC scope cl C X.env) fp) ifs t)
    (he : ∀ (s : Shared) (H : Hp) (C : Addr) (cl : List (Str × Addr)) (fp : List Addr), JE c.nox (X.blk s H scope (compEnvC scope cl C X.env) fp) elt el) (hs : ∀ x, foldedSetIterable iter X.env x = pure x := by intro _; rfl) :
    JF c X (.ListComp elt [⟨tg, iter, ifs, 0⟩] scope pos) (dComp it A t el (own.map (·.2))) := fun R H0 G0 H G σ δ Q k h pins s I => by
  refine (pe_lc hc hN (piS X tg iter) ok (pgB X scope tg) (ptB X scope ifs) (peB X scope elt) hs).run pins s σ H Q I ?_
  exact lc_ok hi hts hg ht he k h
end
end DL

set_option maxRecDepth 100000
set_option maxHeartbeats 4000000
namespace DL
open PySem PySem.Spec PyProof.Rows L2

/-! ### operators by data -/
section
variable {K : PySem.W.Frag} {cl : Cw}
def gI (C : Int → Int → Bool) (f : Int → Int → Int) : D → D → Option D
  | .int i, .int j => if C i j = true then some (.int (f i j)) else none
  | _, _ => none
def gB (f : Int → Int → Bool) : D → D → Option D
  | .int i, .int j => some (.bl (f i j))
  | _, _ => none
theorem bin_int {C : Int → Int → Bool} {C' : Int → Int → Prop} {f : Int → Int → Int} (h : ∀ i j, C i j = true → C' i j) : BinOk K cl (rI C' fun i j => .int (f i j)) (gI C f) := fun H G x y d e z Q s r1 r2 g q => by
  cases r1 with
  | int i =>
    cases r2 with
    | int j =>
      simp only [gI] at g
      by_cases hc : C i j = true
      · rw [if_pos hc] at g; cases g
        exact ⟨i, j, rfl, rfl, h i j hc, q _ H G (.refl s) (.int _)⟩
      · rw [if_neg hc] at g; cases g
    | _ => cases g
  | _ => cases g
theorem bin_int0 {f : Int → Int → Int} : BinOk K cl (rI0 fun i j => .int (f i j)) (gI (fun _ _ => true) f) := fun H G x y d e z Q s r1 r2 g q => by
  cases r1 with
  | int i =>
    cases r2 with
    | int j => cases g; exact ⟨i, j, rfl, rfl, q _ H G (.refl s) (.int _)⟩
    | _ => cases g
  | _ => cases g
theorem bin_bool {f : Int → Int → Bool} : BinOk K cl (rI0 fun i j => .bl (f i j)) (gB f) := fun H G x y d e z Q s r1 r2 g q => by
  cases r1 with
  | int i =>
    cases r2 with
    | int j => cases g; exact ⟨i, j, rfl, rfl, q _ H G (.refl s) (.bl _)⟩
    | _ => cases g
  | _ => cases g
/-- + -/
def gAdd : D → D → Option D
  | .int i, .int j => some (.int (i + j))
  | .str x, .str y => if x.length + y.length ≤ sizeLine then some (.str (x ++ y)) else none
  | .tup xs, .tup ys => if xs.length + ys.length ≤ sizeLine then some (.tup (xs ++ ys)) else none
  | .lst xs, .lst ys => if xs.length + ys.length ≤ sizeLine then some (.lst (xs ++ ys)) else none
  | .tpn xs, .tup ys => if xs.length + ys.length ≤ sizeLine then some (.tup (xs ++ ys)) else none
  | _, _ => none
def rStrAdd : R2 := fun x y H Q => ∃ i j, x = .str i ∧ y = .str j ∧ i.length + j.length ≤ sizeLine ∧ Q (.str (i ++ j)) H
def rAddA (K : PySem.W.Frag) : R2 := fun x y H Q => rI0 (fun i j => .int (i + j)) x y H Q ∨ (rStrAdd x y H Q ∨ (rCatA K x y H Q ∨ rCat x y H Q))
theorem op_addA {X : Cx} : OpR X (binaryOp .Add) (rAddA X.K) := op_add.or (op_add_str.or (op_catA.or op_cat))
theorem bin_add : BinOk K cl (rAddA K) gAdd := fun H G x y d e z Q s r1 r2 g q => by
  cases r1 with
  | int i =>
    cases r2 with
    | int j => cases g; exact .inl ⟨i, j, rfl, rfl, q _ H G (.refl s) (.int _)⟩
    | _ => cases g
  | str a =>
    cases r2 with
    | str b =>
      simp only [gAdd] at g
      by_cases hl : a.length + b.length ≤ sizeLine
      · rw [if_pos hl] at g; cases g
        exact .inr (.inl ⟨a, b, rfl, rfl, hl, q _ H G (.refl s) (.str _)⟩)
      · rw [if_neg hl] at g; cases g
    | _ => cases g
  | @tup a xs ds h1 h2 =>
    cases r2 with
    | @tup b ys es h3 h4 =>
      simp only [gAdd] at g
      by_cases hl : ds.length + es.length ≤ sizeLine
      · rw [if_pos hl] at g; cases g
        refine .inr (.inr (.inl ⟨a, b, xs, ys, rfl, rfl, s.sqT h1, s.sqT h3, by rw [h2.length, h4.length]; exact hl, fun e => ?_, fun ne e => ?_, fun _ _ p np => ?_⟩))
        · subst e
          cases h2
          exact q _ H G (.refl s) (.tup h3 h4)
        · subst e
          cases h4
          exact q _ H G (.refl s) (.tup h1 (by rw [List.append_nil]; exact h2))
        · have gr := Grow.froze s np (.tup (xs ++ ys))
          exact q _ _ _ gr (.tup (.inl (.inl upd_same)) ((h2.append h4).mono gr.gk))
      · rw [if_neg hl] at g; cases g
    | _ => cases g
  | @lst a xs ds h1 h2 =>
    cases r2 with
    | @lst b ys es h3 h4 =>
      simp only [gAdd] at g
      by_cases hl : ds.length + es.length ≤ sizeLine
      · rw [if_pos hl] at g; cases g
        refine .inr (.inr (.inr ⟨a, b, xs, ys, rfl, rfl, s _ _ h1, s _ _ h3, by rw [h2.length, h4.length]; exact hl, fun p np => ?_⟩))
        have gr := Grow.froze s np (.lst (xs ++ ys))
        exact q _ _ _ gr (.lst upd_same ((h2.append h4).mono gr.gk))
      · rw [if_neg hl] at g; cases g
    | _ => cases g
  | @tpn a ob xs ds h0 _ _ h2 =>
    cases r2 with
    | @tup b ys es h3 h4 =>
      have h1 : SqT K G a xs := .inl (.inr ⟨ob, h0⟩)
      simp only [gAdd] at g
      by_cases hl : ds.length + es.length ≤ sizeLine
      · rw [if_pos hl] at g; cases g
        refine .inr (.inr (.inl ⟨a, b, xs, ys, rfl, rfl, s.sqT h1, s.sqT h3, by rw [h2.length, h4.length]; exact hl, fun e => ?_, fun ne e => ?_, fun _ _ p np => ?_⟩))
        · subst e
          cases h2
          exact q _ H G (.refl s) (.tup h3 h4)
        · subst e
          cases h4
          exact q _ H G (.refl s) (.tup h1 (by rw [List.append_nil]; exact h2))
        · have gr := Grow.froze s np (.tup (xs ++ ys))
          exact q _ _ _ gr (.tup (.inl (.inl upd_same)) ((h2.append h4).mono gr.gk))
      · rw [if_neg hl] at g; cases g
    | _ => cases g
  | _ => cases g
/-! ### == -/
mutual
def toPy : D → Option PyData
  | .non => some .none
  | .bl b => some (.bool b)
  | .int i => some (.int i)
  | .str x => some (.str x)
  | .lst ds => (toPyL ds).map .list
  | .tup ds => (toPyL ds).map .tuple
  | .tpn ds => (toPyL ds).map .tuple
  | .dct _ _ => none
  | .ins _ _ _ => none
  | .scr _ => none
  | .rng _ _ => none
  | .set _ => none
  | .exv _ _ _ => none
def toPyL : List D → Option (List PyData)
  | [] => some []
  | d :: ds => (toPy d).bind fun p => (toPyL ds).map fun ps => p :: ps
end
mutual
theorem Rep.dp {H G : Hp} (s : Sub G H) : ∀ {d : D} {v : V} {p : PyData}, Rep K cl G v d → toPy d = some p → Dp K H v p
  | .non, _, _, h, e => by cases h; cases e; exact .non
  | .bl b, _, _, h, e => by cases h; cases e; exact .bl b
  | .int i, _, _, h, e => by cases h; cases e; exact .int i
  | .str x, _, _, h, e => by cases h; cases e; exact .str x
  | .lst ds, _, _, h, e => by
    cases h with
    | lst h1 h2 =>
      simp only [toPy, Option.map_eq_some_iff] at e
      obtain ⟨ps, e1, rfl⟩ := e
      exact .lst (.inl (.inl (s _ _ h1))) (RepL.dp s h2 e1)
  | .tup ds, _, _, h, e => by
    cases h with
    | tup h1 h2 =>
      simp only [toPy, Option.map_eq_some_iff] at e
      obtain ⟨ps, e1, rfl⟩ := e
      exact .tup (s.sqT h1) (RepL.dp s h2 e1)
  | .tpn ds, _, _, h, e => by
    cases h with
    | tpn h1 hd hc h2 =>
      simp only [toPy, Option.map_eq_some_iff] at e
      obtain ⟨ps, e1, rfl⟩ := e
      exact .tup (.inl (.inr ⟨_, s _ _ h1⟩)) (RepL.dp s h2 e1)
  | .dct _ _, _, _, h, e => by simp [toPy] at e
  | .ins _ _ _, _, _, h, e => by simp [toPy] at e
  | .scr _, _, _, h, e => by simp [toPy] at e
  | .rng _ _, _, _, h, e => by simp [toPy] at e
  | .set _, _, _, h, e => by simp [toPy] at e
  | .exv _ _ _, _, _, h, e => by simp [toPy] at e
theorem RepL.dp {H G : Hp} (s : Sub G H) : ∀ {ds : List D} {vs : List V} {ps : List PyData}, RepL K cl G vs ds → toPyL ds = some ps → DpAll K H vs ps
  | [], _, _, h, e => by cases h; simp only [toPyL] at e; cases e; exact .nil
  | d :: ds, _, _, h, e => by
    cases h with
    | cons h1 h2 =>
      simp only [toPyL, Option.bind_eq_some_iff, Option.map_eq_some_iff] at e
      obtain ⟨p, e1, ps, e2, rfl⟩ := e
      exact .cons (Rep.dp s h1 e1) (RepL.dp s h2 e2)
end
def gEq (neg : Bool) (d e : D) : Option D := match toPy d, toPy e with
  | some p, some q => if SeqAt.shaped p = true ∧ SeqAt.shaped q = true then some (.bl (if neg then !PyData.eqv p q else PyData.eqv p q)) else none
  | _, _ => none
theorem bin_eq : BinOk K cl (rEqD K) (gEq false) := fun H G x y d e z Q s r1 r2 g q => by
  unfold gEq at g
  cases h1 : toPy d with
  | none => rw [h1] at g; cases g
  | some p =>
    cases h2 : toPy e with
    | none => rw [h1, h2] at g; cases g
    | some p2 =>
      rw [h1, h2] at g
      dsimp only at g
      by_cases hs : SeqAt.shaped p = true ∧ SeqAt.shaped p2 = true
      · rw [if_pos hs] at g; cases g
        exact ⟨p, p2, r1.dp s h1, r2.dp s h2, hs.1, hs.2, q _ H G (.refl s) (.bl _)⟩
      · rw [if_neg hs] at g; cases g
theorem bin_ne : BinOk K cl (rNeD K) (gEq true) := fun H G x y d e z Q s r1 r2 g q => by
  unfold gEq at g
  cases h1 : toPy d with
  | none => rw [h1] at g; cases g
  | some p =>
    cases h2 : toPy e with
    | none => rw [h1, h2] at g; cases g
    | some p2 =>
      rw [h1, h2] at g
      dsimp only at g
      by_cases hs : SeqAt.shaped p = true ∧ SeqAt.shaped p2 = true
      · rw [if_pos hs] at g; cases g
        exact ⟨p, p2, r1.dp s h1, r2.dp s h2, hs.1, hs.2, q _ H G (.refl s) (.bl _)⟩
      · rw [if_neg hs] at g; cases g
/-! ### is -/
def gIs (neg : Bool) : D → D → Option D
  | .bl a, .bl b => some (.bl (if neg then !decide (a = b) else decide (a = b)))
  | .non, .non => some (.bl (!neg))
  | _, .non => some (.bl neg)
  | _, _ => none
def rIsA : R2 := fun x y H Q => (y = .non ∧ Q (.bl (decide (x = .non))) H) ∨ rIsB x y H Q
theorem op_isA {X : Cx} : OpR X (compareOp .Is) rIsA := op_isN.or op_isBl
theorem bin_is : BinOk K cl rIsA (gIs false) := fun H G x y d e z Q s r1 r2 g q => by
  cases r2 with
  | non =>
    refine .inl ⟨rfl, ?_⟩
    cases r1 <;> (cases g; exact q _ H G (.refl s) (.bl _))
  | bl b =>
    cases r1 with
    | bl a => cases g; exact .inr ⟨a, b, rfl, rfl, q _ H G (.refl s) (.bl _)⟩
    | _ => cases g
  | _ => cases r1 <;> cases g
end
section
variable {c : Cf} {X : Cx} {a b : Expr} {fa fb : DE} {pos : Pos}
/-! ### the operators' rules -/
theorem je_add (ha : JE c X a fa) (hb : JE c X b fb) : JE c X (.BinOp a .Add b pos) (dBin gAdd fa fb) := je_op op_addA bin_add ha hb
theorem je_sub (ha : JE c X a fa) (hb : JE c X b fb) : JE c X (.BinOp a .Sub b pos) (dBin (gI (fun _ _ => true) fun i j => i - j) fa fb) := je_op op_sub bin_int0 ha hb
def cMul (i j : Int) : Bool := decide (i.natAbs.log2 + j.natAbs.log2 < 1000000)
theorem je_mul (ha : JE c X a fa) (hb : JE c X b fb) : JE c X (.BinOp a .Mult b pos) (dBin (gI cMul fun i j => i * j) fa fb) := je_op op_mulW (bin_int fun i j h => of_decide_eq_true (p := i.natAbs.log2 + j.natAbs.log2 < 1000000) h) ha hb
def cDiv (_ j : Int) : Bool := decide (0 < j ∧ j.natAbs.log2 < 9000)
theorem je_div (ha : JE c X a fa) (hb : JE c X b fb) : JE c X (.BinOp a .FloorDiv b pos) (dBin (gI cDiv fun i j => i / j) fa fb) := je_op op_fdivW (bin_int fun i j h => of_decide_eq_true (p := 0 < j ∧ j.natAbs.log2 < 9000) h) ha hb
def cPos (_ j : Int) : Bool := decide (0 < j)
theorem je_mod (ha : JE c X a fa) (hb : JE c X b fb) : JE c X (.BinOp a .Mod b pos) (dBin (gI cPos fun i j => i % j) fa fb) := je_op op_mod (bin_int fun i j h => of_decide_eq_true h) ha hb
def cPow (i j : Int) : Bool := decide (0 ≤ j ∧ j ≤ 1000000 ∧ i.natAbs < 2 ^ 64)
theorem je_pow (ha : JE c X a fa) (hb : JE c X b fb) : JE c X (.BinOp a .Pow b pos) (dBin (gI cPow fun i j => i ^ j.toNat) fa fb) := je_op op_pow (bin_int fun i j h => of_decide_eq_true (p := 0 ≤ j ∧ j ≤ 1000000 ∧ i.natAbs < 2 ^ 64) h) ha hb
/-- what an operator of comparison is by data -/
structure CmpR (c : Cf) (X : Cx) (op : CmpOp) (r : R2) (g : D → D → Option D) : Prop where
  op : OpR X (compareOp op) r
  ok : BinOk X.K c.cl r g
theorem cr_lt : CmpR c X .Lt (rI0 fun i j => .bl (decide (i < j))) (gB fun i j => decide (i < j)) := ⟨op_lt, bin_bool⟩
theorem cr_gt : CmpR c X .Gt (rI0 fun i j => .bl (decide (j < i))) (gB fun i j => decide (j < i)) := ⟨op_gt, bin_bool⟩
theorem cr_eq (hu : X.A.units + 64 < cLine) : CmpR c X .Eq (rEqD X.K) (gEq false) := ⟨op_eqD hu, bin_eq⟩
theorem cr_ne (hu : X.A.units + 64 < cLine) : CmpR c X .NotEq (rNeD X.K) (gEq true) := ⟨op_neD hu, bin_ne⟩
theorem cr_is : CmpR c X .Is rIsA (gIs false) := ⟨op_isA, bin_is⟩
theorem je_cm {op : CmpOp} {r : R2} {g : D → D → Option D} (h : CmpR c X op r g) (ha : JE c X a fa) (hb : JE c X b fb) (hm : behindInMarks op b = false := by first | exact nomark _ | with_unfolding_all rfl) : JE c X (.Compare a [op] [b] pos) (dBin g fa fb) := je_cmp h.op h.ok ha hb hm
theorem jt_cm {op : CmpOp} {r : R2} {g : D → D → Option D} (h : CmpR c X op r g) (ha : JE c X a fa) (hb : JE c X b fb) (hm : behindInMarks op b = false := by first | exact nomark _ | with_unfolding_all rfl) : JT c X (.Compare a [op] [b] pos) (dTest (dBin g fa fb)) := jt_cmp h.op h.ok ha hb hm
/-- unary -/
def dUn (g : D → Option D) (fa : DE) : DE := fun δ => (fa δ).bind fun x δ1 => match g x with
  | some z => .ok z δ1
  | none => .st
def dNot (fa : DE) : DE := fun δ => (fa δ).bind fun x δ1 => match dTruth x with
  | some b => .ok (.bl (!b)) δ1
  | none => .st
theorem je_not (ha : JE c X a fa) : JE c X (.UnaryOp .Not a pos) (dNot fa) := by
  refine je_of (pe_notT (peS X a)) fun R H0 G0 H G σ δ Q k h => ?_
  refine ha R H0 G0 H G σ δ _ k (EPost.imp (EPost.bind h) fun x H1 ⟨G1, d, δ1, s1, k1, r1, h1⟩ => ?_)
  cases q : dTruth d with
  | none => rw [q] at h1; exact h1.elim
  | some b => rw [q] at h1; exact ⟨b, truth_ok k1.sub r1 q, h1 _ H1 G1 (.refl G1) k1 (.bl _)⟩
/-- and, or of values -/
def dAnd (fa fb : DE) : DE := fun δ => (fa δ).bind fun x δ1 => match dTruth x with
  | some true => fb δ1
  | some false => .ok x δ1
  | none => .st
def dOr (fa fb : DE) : DE := fun δ => (fa δ).bind fun x δ1 => match dTruth x with
  | some true => .ok x δ1
  | some false => fb δ1
  | none => .st
theorem je_one {op : BoolOp} (ha : JE c X a fa) : JE c X (.BoolOp op [a] pos) fa := je_of (pe_one (peS X a)) fun R H0 G0 H G σ δ Q k h => ha R H0 G0 H G σ δ Q k h
theorem je_and {rest : List Expr} (ha : JE c X a fa) (hb : JE c X (.BoolOp .And (b :: rest) pos) fb) : JE c X (.BoolOp .And (a :: b :: rest) pos) (dAnd fa fb) := by
  refine je_of (pe_andT (peS X a) (peS X _)) fun R H0 G0 H G σ δ Q k h => ?_
  refine ha R H0 G0 H G σ δ _ k (EPost.imp (EPost.bind h) fun x H1 ⟨G1, d, δ1, s1, k1, r1, h1⟩ => ?_)
  cases q : dTruth d with
  | none => rw [q] at h1; exact h1.elim
  | some t =>
    rw [q] at h1
    refine ⟨t, truth_ok k1.sub r1 q, ?_⟩
    cases t with
    | true => exact hb R H0 G0 H1 G1 σ δ1 Q k1 h1
    | false => exact h1 _ H1 G1 (.refl G1) k1 r1
/-- as tests -/
def tAndD (ta tb : DT) : DT := fun δ => (ta δ).bind fun x δ1 => if x = true then tb δ1 else .ok false δ1
def tOrD (ta tb : DT) : DT := fun δ => (ta δ).bind fun x δ1 => if x = true then .ok true δ1 else tb δ1
def tNotD (ta : DT) : DT := fun δ => (ta δ).bind fun x δ1 => .ok (!x) δ1
variable {ft gt : DT} {rest : List Expr}
theorem JW.jt (h : JW c X a ft) : JT c X a ft := fun R H0 G0 H G σ δ Q k h' pins s I => h R H0 G0 H G σ δ Q k h' _ pins s I
theorem jw_and1 (ha : JT c X a ft) : JW c X (.BoolOp .And [a] pos) ft := jw_of (pw_and1 (ptS X a)) fun R H0 G0 H G σ δ Q k h => ha R H0 G0 H G σ δ Q k h
theorem jw_or1 (ha : JT c X a ft) : JW c X (.BoolOp .Or [a] pos) ft := jw_of (pw_or1 (ptS X a)) fun R H0 G0 H G σ δ Q k h => ha R H0 G0 H G σ δ Q k h
theorem jw_and (ha : JT c X a ft) (hb : JW c X (.BoolOp .And (b :: rest) pos) gt) : JW c X (.BoolOp .And (a :: b :: rest) pos) (tAndD ft gt) := by
  refine jw_of (pw_and (ptS X a) (pwS X _)) fun R H0 G0 H G σ δ Q k h => ?_
  refine ha R H0 G0 H G σ δ _ k (EPost.imp (EPost.bind (rel := relB) h) fun x H1 ⟨G1, d, δ1, s1, k1, r1, h1⟩ => ?_)
  have r1 : x = d := r1
  subst r1
  cases x with
  | true => exact hb R H0 G0 H1 G1 σ δ1 Q k1 h1
  | false => exact h1 _ H1 G1 (.refl G1) k1 rfl
theorem jw_or (ha : JT c X a ft) (hb : JW c X (.BoolOp .Or (b :: rest) pos) gt) : JW c X (.BoolOp .Or (a :: b :: rest) pos) (tOrD ft gt) := by
  refine jw_of (pw_or (ptS X a) (pwS X _)) fun R H0 G0 H G σ δ Q k h => ?_
  refine ha R H0 G0 H G σ δ _ k (EPost.imp (EPost.bind (rel := relB) h) fun x H1 ⟨G1, d, δ1, s1, k1, r1, h1⟩ => ?_)
  have r1 : x = d := r1
  subst r1
  cases x with
  | true => exact h1 _ H1 G1 (.refl G1) k1 rfl
  | false => exact hb R H0 G0 H1 G1 σ δ1 Q k1 h1
theorem jt_not (ha : JT c X a ft) : JT c X (.UnaryOp .Not a pos) (tNotD ft) := by
  refine jt_of (pt_not (ptS X a)) fun R H0 G0 H G σ δ Q k h => ?_
  refine ha R H0 G0 H G σ δ _ k (EPost.imp (EPost.bind (rel := relB) h) fun x H1 ⟨G1, d, δ1, s1, k1, r1, h1⟩ => ?_)
  have r1 : x = d := r1
  subst r1
  exact h1 _ H1 G1 (.refl G1) k1 rfl
/-- a if t else b -/
def dIf (t : DT) (fa fb : DE) : DE := fun δ => (t δ).bind fun x δ1 => if x = true then fa δ1 else fb δ1
theorem je_if {t : Expr} (ht : JT c X t ft) (ha : JE c X a fa) (hb : JE c X b fb) : JE c X (.IfExp t a b pos) (dIf ft fa fb) := by
  refine je_of (pe_ifExp (ptS X t) (peS X a) (peS X b)) fun R H0 G0 H G σ δ Q k h => ?_
  refine ht R H0 G0 H G σ δ _ k (EPost.imp (EPost.bind (rel := relB) h) fun x H1 ⟨G1, d, δ1, s1, k1, r1, h1⟩ => ?_)
  have r1 : x = d := r1
  subst r1
  cases x with
  | true => exact ha R H0 G0 H1 G1 σ δ1 Q k1 h1
  | false => exact hb R H0 G0 H1 G1 σ δ1 Q k1 h1
/-- a op b op' e -/
def dChain (g g' : D → D → Option D) (fa fb fe : DE) : DE := fun δ => (fa δ).bind fun x δ1 => (fb δ1).bind fun y δ2 => match g x y with
  | some (.bl true) => (fe δ2).bind fun z δ3 => (match g' y z with
    | some w => .ok w δ3
    | none => .st)
  | some (.bl false) => .ok (.bl false) δ2
  | _ => .st
end
end DL

set_option maxRecDepth 100000
set_option maxHeartbeats 4000000
namespace DL
open PySem PySem.Spec PyProof.Rows L2

/-! ### calls of built-ins -/
def dCallB (g : List D → Option D) (fs : DA) : DE := dVals fs fun ds δ => match g ds with
  | some z => .ok z δ
  | none => .st
def CallOk (K : PySem.W.Frag) (cl : Cw) (r : List V → Hp → VK → Prop) (g : List D → Option D) : Prop :=
  ∀ (H G : Hp) (xs : List V) (ds : List D) (z : D) (Q : VK), Sub G H → RepL K cl G xs ds → g ds = some z → (∀ v H' G', Grow H G H' G' → Rep K cl G' v z → Q v H') → r xs H Q
section
variable {c : Cf} {X : Cx} {e : Expr} {es : List Expr} {fs : DA} {r : List V → Hp → VK → Prop} {g : List D → Option D} {pos : Pos}
theorem je_cb (p : PE X e (tCB r (tA X es))) (h : CallOk X.K c.cl r g) (ha : JA c X es fs) : JE c X e (dCallB g fs) := by
  refine je_of p fun R H0 G0 H G σ δ Q k hp => ?_
  refine ha R H0 G0 H G σ δ _ k (EPost.imp (EPost.bind hp) fun xs H1 ⟨G1, as, δ1, s1, k1, r1, h1⟩ => ?_)
  cases q : avs as with
  | none => rw [q] at h1; exact h1.elim
  | some ds =>
    rw [q] at h1
    cases q2 : g ds with
    | none => simp only [q2] at h1; exact h1.elim
    | some z =>
      simp only [q2] at h1
      exact h H1 G1 xs ds z Q k1.sub (r1.vals q) q2 fun v H' G' gr rv => h1 v H' G' gr.gk (k1.grow gr) rv
end
section
variable {K : PySem.W.Frag} {cl : Cw} {H G : Hp}
theorem RepL.one' {vs : List V} {d : D} (r : RepL K cl G vs [d]) : ∃ v, vs = [v] ∧ Rep K cl G v d := by
  cases r with
  | cons h t => cases t; exact ⟨_, rfl, h⟩
/-- len -/
def lenD : D → Option Nat
  | .str y => if y.length ≤ sizeLine then some y.length else none
  | .lst ds => some ds.length
  | .tup ds => some ds.length
  | .tpn ds => some ds.length
  | .scr ns => some ns.length
  | _ => none
def gLen : List D → Option D
  | [d] => (lenD d).map fun n => .int (n : Nat)
  | _ => none
def rLenA (K : PySem.W.Frag) : List V → Hp → VK → Prop := fun xs H Q => ∃ x n, xs = [x] ∧ LenV K x H n ∧ Q (.int n) H
theorem lenV_ok (s : Sub G H) {v : V} {d : D} {n : Nat} (r : Rep K cl G v d) (e : lenD d = some n) : LenV K v H n := by
  cases r with
  | str y =>
    simp only [lenD] at e
    by_cases hl : y.length ≤ sizeLine
    · rw [if_pos hl] at e; cases e; exact ⟨hl, rfl⟩
    · rw [if_neg hl] at e; cases e
  | @lst a xs ds h1 h2 => cases e; exact .inl ⟨xs, .inl (.inl (s _ _ h1)), h2.length.symm⟩
  | @tup a xs ds h1 h2 => cases e; exact .inr ⟨xs, s.sqT h1, h2.length.symm⟩
  | @tpn a ob xs ds h1 hd hc h2 => cases e; exact .inr ⟨xs, .inl (.inr ⟨_, s _ _ h1⟩), h2.length.symm⟩
  | @scr a ns h1 => cases e; exact .inl ⟨_, s.sqL h1, by simp⟩
  | _ => cases e
theorem co_len : CallOk K cl (rLenA K) gLen := fun H G xs ds z Q s r e q => by
  match ds, r, e with
  | [d], r, e =>
    obtain ⟨v, rfl, rv⟩ := r.one'
    simp only [gLen, Option.map_eq_some_iff] at e
    obtain ⟨n, e1, rfl⟩ := e
    exact ⟨v, n, rfl, lenV_ok s rv e1, q _ H G (.refl s) (.int _)⟩
  | [], r, e => cases e
  | _ :: _ :: _, r, e => cases e
/-- int(x) of an int, a bool -/
def gInt1 : List D → Option D
  | [.int i] => some (.int i)
  | [.bl b] => some (.int (if b then 1 else 0))
  | _ => none
theorem co_int : CallOk K cl (fun xs H Q => (∃ i, xs = [.int i] ∧ Q (.int i) H) ∨ ∃ k, xs = [.bl k] ∧ Q (.int (if k then 1 else 0)) H) gInt1 := fun H G xs ds z Q s r e q => by
  match ds, r, e with
  | [d], r, e =>
    obtain ⟨v, rfl, rv⟩ := r.one'
    cases rv with
    | int i => cases e; exact .inl ⟨i, rfl, q _ H G (.refl s) (.int _)⟩
    | bl b => cases e; exact .inr ⟨b, rfl, q _ H G (.refl s) (.int _)⟩
    | _ => cases e
  | [], r, e => cases e
  | _ :: _ :: _, r, e => simp [gInt1] at e
def gAbs : List D → Option D
  | [.int i] => some (.int (if i < 0 then -i else i))
  | _ => none
theorem co_abs : CallOk K cl (fun xs H Q => ∃ i, xs = [.int i] ∧ Q (.int (if i < 0 then -i else i)) H) gAbs := fun H G xs ds z Q s r e q => by
  match ds, r, e with
  | [d], r, e =>
    obtain ⟨v, rfl, rv⟩ := r.one'
    cases rv with
    | int i => cases e; exact ⟨i, rfl, q _ H G (.refl s) (.int _)⟩
    | _ => cases e
  | [], r, e => cases e
  | _ :: _ :: _, r, e => simp [gAbs] at e
/-- tuple(x), list(x) of a list or a tuple -/
def gTuple : List D → Option D
  | [.lst ds] => some (.tup ds)
  | [.tup ds] => some (.tup ds)
  | _ => none
theorem co_tuple : CallOk K cl (fun xs H Q => ∃ p ys, xs = [.ref p] ∧ ((SqL K H p ys ∧ ∀ l, H l = none → Q (.ref l) (upd H l (.tup ys))) ∨ (SqT K H p ys ∧ Q (.ref p) H))) gTuple := fun H G xs ds z Q s r e q => by
  match ds, r, e with
  | [d], r, e =>
    obtain ⟨v, rfl, rv⟩ := r.one'
    cases rv with
    | @lst a xs ds h1 h2 =>
      cases e
      refine ⟨a, xs, rfl, .inl ⟨.inl (.inl (s _ _ h1)), fun l nl => ?_⟩⟩
      have gr := Grow.froze s nl (.tup xs)
      exact q _ _ _ gr (.tup (.inl (.inl upd_same)) (h2.mono gr.gk))
    | @tup a xs ds h1 h2 =>
      cases e
      exact ⟨a, xs, rfl, .inr ⟨s.sqT h1, q _ H G (.refl s) (.tup h1 h2)⟩⟩
    | _ => cases e
  | [], r, e => cases e
  | _ :: _ :: _, r, e => simp [gTuple] at e
end
section
variable {c : Cf} {X : Cx} {e : Expr} {es : List Expr} {fe fb : DE} {fs : DA} {p pos : Pos}
theorem je_len (hg : Gl X "len") (hm : X.mg "len" = none) (ha : JA c X (e :: es) fs) (he : starEach (e :: es) X.env = (false, eval e X.env) :: starEach es X.env := by rfl) (hpl : (backTo pos (starEach es X.env)).any (·.1) = false := by rfl) :
    JE c X (.Call (.Name "len" p) (e :: es) [] pos) (dCallB gLen fs) := je_cb (pe_callB call_len hg hm PySem.boot_len (paS X (e :: es)) (by decide) (by decide) he hpl) co_len ha
theorem je_callint (hg : Gl X "int") (hm : X.mg "int" = none) (ha : JA c X (e :: es) fs) (he : starEach (e :: es) X.env = (false, eval e X.env) :: starEach es X.env := by rfl) (hpl : (backTo pos (starEach es X.env)).any (·.1) = false := by rfl) :
    JE c X (.Call (.Name "int" p) (e :: es) [] pos) (dCallB gInt1 fs) := je_cb (pe_callTy call_int1 hg hm (by decide +kernel) (paS X (e :: es)) (by decide) (by decide) he hpl) co_int ha
theorem je_abs (hg : Gl X "abs") (hm : X.mg "abs" = none) (ha : JA c X (e :: es) fs) (he : starEach (e :: es) X.env = (false, eval e X.env) :: starEach es X.env := by rfl) (hpl : (backTo pos (starEach es X.env)).any (·.1) = false := by rfl) :
    JE c X (.Call (.Name "abs" p) (e :: es) [] pos) (dCallB gAbs fs) := je_cb (pe_callB call_abs hg hm (by decide +kernel) (paS X (e :: es)) (by decide) (by decide) he hpl) co_abs ha
theorem je_calltuple (hg : Gl X "tuple") (hm : X.mg "tuple" = none) (ha : JA c X (e :: es) fs) (he : starEach (e :: es) X.env = (false, eval e X.env) :: starEach es X.env := by rfl) (hpl : (backTo pos (starEach es X.env)).any (·.1) = false := by rfl) :
    JE c X (.Call (.Name "tuple" p) (e :: es) [] pos) (dCallB gTuple fs) := je_cb (pe_callTy call_tuple_of hg hm (by decide +kernel) (paS X (e :: es)) (by decide) (by decide) he hpl) co_tuple ha
/-! ### subscripts -/
def idxD : D → D → Option D
  | .lst ds, .int i => atI ds i
  | .tup ds, .int i => atI ds i
  | .tpn ds, .int i => atI ds i
  | .str z, .int i => if z.length ≤ sizeLine then (atI z.cps.toList i).map fun c => .str ⟨#[c]⟩ else none
  | _, _ => none
theorem RepL.atI {K : PySem.W.Frag} {cl : Cw} {G : Hp} {vs : List V} {ds : List D} (r : RepL K cl G vs ds) {i : Int} {d : D} (e : L2.atI ds i = some d) : ∃ v, L2.atI vs i = some v ∧ Rep K cl G v d := by
  unfold L2.atI at e ⊢
  rw [r.length]
  cases q : ixN ds.length i with
  | none => rw [q] at e; cases e
  | some j =>
    rw [q] at e
    exact r.get (i := j) e
theorem bin_ixH {K : PySem.W.Frag} {cl : Cw} {H G : Hp} {x y : V} {d e z : D} {Q : VK} (s : Sub G H) (r1 : Rep K cl G x d) (r2 : Rep K cl G y e) (g : idxD d e = some z) (q : ∀ u, Rep K cl G u z → Q u H) : rIx K x y H Q := by
  cases r1 with
  | @lst a xs ds h1 h2 =>
    cases r2 with
    | int i =>
      obtain ⟨v, e1, e2⟩ := h2.atI g
      exact .inl ⟨a, xs, i, v, rfl, rfl, .inl (.inl (s _ _ h1)), e1, q v e2⟩
    | _ => cases g
  | @tup a xs ds h1 h2 =>
    cases r2 with
    | int i =>
      obtain ⟨v, e1, e2⟩ := h2.atI g
      exact .inr (.inl ⟨a, xs, i, v, rfl, rfl, s.sqT h1, e1, q v e2⟩)
    | _ => cases g
  | @tpn a ob xs ds h1 hn hc h2 =>
    cases r2 with
    | int i =>
      obtain ⟨v, e1, e2⟩ := h2.atI g
      exact .inr (.inl ⟨a, xs, i, v, rfl, rfl, .inl (.inr ⟨_, s _ _ h1⟩), e1, q v e2⟩)
    | _ => cases g
  | str zz =>
    cases r2 with
    | int i =>
      simp only [idxD] at g
      by_cases hl : zz.length ≤ sizeLine
      · rw [if_pos hl, Option.map_eq_some_iff] at g
        obtain ⟨cc, e1, rfl⟩ := g
        exact .inr (.inr ⟨zz, i, cc, rfl, rfl, hl, e1, q _ (.str _)⟩)
      · rw [if_neg hl] at g; cases g
    | _ => cases g
  | _ => cases g
theorem bin_ix {K : PySem.W.Frag} {cl : Cw} : BinOk K cl (rIx K) idxD := fun H G x y d e z Q s r1 r2 g q => bin_ixH s r1 r2 g fun u ru => q u H G (.refl s) ru
theorem je_ix {a b : Expr} {fa : DE} (ha : JE c X a fa) (hb : JE c X b fb) (hs : PlainIx b := by exact fun _ _ => rfl) : JE c X (.Subscript a b pos) (dBin idxD fa fb) :=
  je_of (pe_ix ix_seq (peS X a) (peS X b) hs) fun R H0 G0 H G σ δ Q k h => bin_ok bin_ix ha hb k h
/-- x[i] of a variable that is owned (or not) -/
def look (δ : DEnv) (i : Nat) : Option D := match δ[i]? with
  | some (.val d) => some d
  | some s => s.cont
  | none => none
def dIxV (j : Nat) (fb : DE) : DE := fun δ => match look δ j with
  | some _ => (fb δ).bind fun y δ1 => match (look δ1 j).bind fun d => idxD d y with
    | some z => .ok z δ1
    | none => .st
  | none => .st
theorem look_ok {K : PySem.W.Frag} {cl : Cw} {hx : Addr × Option Addr} {R : List (Nat × Addr)} {H0 G0 H G : Hp} {σ : L2.St} {δ : DEnv} (k : Ok K cl hx R H0 G0 H G σ δ) {j : Nat} {d : D} (e : look δ j = some d) :
    ∃ v, σ[j]? = some (some v) ∧ (Rep K cl G v d ∨ ∃ a, v = .ref a ∧ Own K cl H G a d) := by
  unfold look at e
  cases q : δ[j]? with
  | none => rw [q] at e; cases e
  | some s =>
    rw [q] at e
    obtain ⟨x, ex, w⟩ := k.at q
    cases s with
    | val d' => cases e; obtain ⟨v, rfl, r⟩ := w; exact ⟨v, ex, .inl r⟩
    | own d' => cases e; obtain ⟨a, rfl, _, _, r⟩ := w; exact ⟨.ref a, ex, .inr ⟨a, rfl, r⟩⟩
    | rf d' => cases e; obtain ⟨a, rfl, _, r⟩ := w; exact ⟨.ref a, ex, .inr ⟨a, rfl, r⟩⟩
    | un => cases e
    | exc c ns ds => cases e
theorem seen_ix {K : PySem.W.Frag} {cl : Cw} {H G : Hp} (s : Sub G H) {v y : V} {d e z : D} {Q : VK} (w : Rep K cl G v d ∨ ∃ a, v = .ref a ∧ Own K cl H G a d) (r2 : Rep K cl G y e) (g : idxD d e = some z) (q : ∀ u, Rep K cl G u z → Q u H) : rIx K v y H Q := by
  rcases w with w | ⟨a, rfl, w⟩
  · exact bin_ixH s w r2 g q
  · cases d with
    | lst ds =>
      obtain ⟨xs, h1, h2⟩ := w
      cases r2 with
      | int i =>
        obtain ⟨u, e1, e2⟩ := h2.atI (show L2.atI ds i = some z from g)
        exact .inl ⟨a, xs, i, u, rfl, rfl, .inl (.inl h1), e1, q u e2⟩
      | _ => simp [idxD] at g
    | dct ks ds => simp [idxD] at g
    | ins cc ns ds => simp [idxD] at g
    | _ => exact w.elim
/-- the reading of a subscript of a variable -/
theorem je_ixV {a b : Expr} {j : Nat} {fb : DE} (pa : PE X a (tVar j)) (hb : JE c X b fb) (hs : PlainIx b := by exact fun _ _ => rfl) : JE c X (.Subscript a b pos) (dIxV j fb) := by
  refine je_of (pe_ix ix_seq pa (peS X b) hs) fun R H0 G0 H G σ δ Q k h => ?_
  unfold dIxV at h
  cases q0 : look δ j with
  | none => rw [q0] at h; exact h.elim
  | some d0 =>
    rw [q0] at h
    obtain ⟨v, ev, _⟩ := look_ok k q0
    refine ⟨v, ev, ?_⟩
    refine hb R H0 G0 H G σ δ _ k (EPost.imp (EPost.bind h) fun y H1 ⟨G1, e, δ1, s1, k1, r1, h1⟩ => ?_)
    cases q1 : look δ1 j with
    | none => simp only [q1] at h1; exact h1.elim
    | some d =>
      simp only [q1, Option.bind_some] at h1
      obtain ⟨v', ev', w⟩ := look_ok k1 q1
      rw [ev] at ev'
      cases ev'
      cases q2 : idxD d e with
      | none => simp only [q2] at h1; exact h1.elim
      | some z =>
        simp only [q2] at h1
        exact seen_ix k1.sub w r1 q2 fun u ru => h1 u H1 G1 (.refl G1) k1 ru
/-- len(x) of a variable that is owned (or not) -/
def dLenV (j : Nat) : DE := fun δ => match (look δ j).bind lenD with
  | some n => .ok (.int (n : Nat)) δ
  | none => .st
theorem seen_len {K : PySem.W.Frag} {cl : Cw} {H G : Hp} (s : Sub G H) {v : V} {d : D} {n : Nat} (w : Rep K cl G v d ∨ ∃ a, v = .ref a ∧ Own K cl H G a d) (e : lenD d = some n) : LenV K v H n := by
  rcases w with w | ⟨a, rfl, w⟩
  · exact lenV_ok s w e
  · cases d with
    | lst ds => obtain ⟨xs, h1, h2⟩ := w; cases e; exact .inl ⟨xs, .inl (.inl h1), h2.length.symm⟩
    | dct ks ds => cases e
    | ins cc ns ds => cases e
    | _ => exact w.elim
theorem je_lenV {a : Expr} {j : Nat} (hg : Gl X "len") (hm : X.mg "len" = none) (pa : PE X a (tVar j)) (he : starEach [a] X.env = (false, eval a X.env) :: starEach [] X.env := by rfl) (hpl : (backTo pos (starEach [] X.env)).any (·.1) = false := by rfl) :
    JE c X (.Call (.Name "len" p) [a] [] pos) (dLenV j) := by
  refine je_of (pe_callB call_len hg hm PySem.boot_len (pa_cons pa pa_nil he) (by decide) (by decide) he hpl) fun R H0 G0 H G σ δ Q k h => ?_
  unfold dLenV at h
  cases q0 : look δ j with
  | none => rw [q0] at h; exact h.elim
  | some d =>
    rw [q0] at h
    simp only [Option.bind_some] at h
    obtain ⟨v, ev, w⟩ := look_ok k q0
    cases q1 : lenD d with
    | none => simp only [q1] at h; exact h.elim
    | some n =>
      simp only [q1] at h
      exact ⟨v, ev, v, n, rfl, seen_len k.sub w q1, h _ H G (.refl G) k (.int _)⟩
/-- the truth of such a variable -/
def dTruV (j : Nat) : DT := fun δ => match (look δ j).bind dTruth with
  | some b => .ok b δ
  | none => .st
theorem seen_tru {K : PySem.W.Frag} {cl : Cw} {H G : Hp} (s : Sub G H) {v : V} {d : D} {b : Bool} (w : Rep K cl G v d ∨ ∃ a, v = .ref a ∧ Own K cl H G a d) (e : dTruth d = some b) : TruV K v H b := by
  rcases w with w | ⟨a, rfl, w⟩
  · exact truth_ok s w e
  · cases d with
    | lst ds => obtain ⟨xs, h1, h2⟩ := w; cases e; exact .inl ⟨xs, .inl (.inl h1), by rw [h2.isEmpty]⟩
    | dct ks ds =>
      obtain ⟨xs, h1, hl, h2⟩ := w
      cases e
      refine .inr (.inr ⟨_, h1, ?_⟩)
      cases ks with
      | nil => rfl
      | cons k r =>
        cases xs with
        | nil => cases hl
        | cons x t => rfl
    | ins cc ns ds => cases e
    | _ => exact w.elim
theorem jt_truV {a : Expr} {j : Nat} (pa : PE X a (tVar j)) (he : ∀ whole, isTrue a X.env whole = (do let v ← whole; standAt a.pos; holding [v] (truthy v))) : JT c X a (dTruV j) := by
  refine jt_of (pt_truth pa he) fun R H0 G0 H G σ δ Q k h => ?_
  unfold dTruV at h
  cases q0 : look δ j with
  | none => rw [q0] at h; exact h.elim
  | some d =>
    rw [q0] at h
    simp only [Option.bind_some] at h
    obtain ⟨v, ev, w⟩ := look_ok k q0
    cases q1 : dTruth d with
    | none => simp only [q1] at h; exact h.elim
    | some n =>
      simp only [q1] at h
      exact ⟨v, ev, n, seen_tru k.sub w q1, h _ H G (.refl G) k rfl⟩

/-! ### slices -/
def dOpt (fo : Option DE) (δ : DEnv) : EO (Option Int) := match fo with
  | none => .ok none δ
  | some f => (f δ).bind fun x δ1 => match x with
    | .int i => .ok (some i) δ1
    | _ => .st
def cutL {α : Type} (xs : List α) (lo hi : Option Int) : List α := (xs.drop (HT.sIx xs.length 0 lo)).take (HT.sIx xs.length xs.length hi - HT.sIx xs.length 0 lo)
def slD (lo hi : Option Int) : D → Option D
  | .lst ds => some (.lst (cutL ds lo hi))
  | .tup ds => some (.tup (cutL ds lo hi))
  | .str z => if z.length ≤ sizeLine then some (.str (cutS z lo hi)) else none
  | _ => none
def dSl (fe : DE) (fl fh : Option DE) : DE := fun δ => (fe δ).bind fun d δ1 => (dOpt fl δ1).bind fun l δ2 => (dOpt fh δ2).bind fun h δ3 => match slD l h d with
  | some z => .ok z δ3
  | none => .st
def tO (X : Cx) (e : Option Expr) : TO := match e with
  | none => tNoPart
  | some e => tPart (tE X e)
/-- an optional part -/
inductive JO (c : Cf) (X : Cx) : Option Expr → Option DE → Prop
  | none : JO c X none none
  | some {e : Expr} {f : DE} : JE c X e f → JO c X (some e) (some f)
theorem JO.run {o : Option Expr} {fo : Option DE} (h : JO c X o fo) {R : List (Nat × Addr)} {H0 G0 H G : Hp} {σ : L2.St} {δ : DEnv} {Q : Option Int → Hp → Prop} (k : (c.fx X R H0 G0).Ok H G σ δ)
    (hp : EPost (c.fx X R H0 G0) c.W σ (fun _ (a b : Option Int) => a = b) G (dOpt fo δ) Q) : tO X o σ H Q := by
  cases h with
  | none => exact hp Option.none H G (.refl G) k rfl
  | some he =>
    refine he R H0 G0 H G σ δ _ k (EPost.imp (EPost.bind (rel := relD X.K c.cl) hp) fun x H1 ⟨G1, d, δ1, s1, k1, r1, h1⟩ => ?_)
    cases r1 with
    | int i => exact ⟨i, rfl, h1 (Option.some i) H1 G1 (.refl G1) k1 rfl⟩
    | _ => exact h1.elim
/-! ### stores into owned objects -/
/-- a variable's new content -/
def putV (j : Nat) (d : D) (δ : DEnv) : Option DEnv := match δ[j]? with
  | some s => if isO s = true then some (δ.set j (s.put d)) else none
  | none => none
theorem ownd_put {K : PySem.W.Frag} {cl : Cw} {hx : Addr × Option Addr} {R : List (Nat × Addr)} {H0 G0 H G : Hp} {σ : L2.St} {δ δ' : DEnv} (k : Ok K cl hx R H0 G0 H G σ δ) {j : Nat} {d : D} (e : putV j d δ = some δ') :
    ∃ a, σ[j]? = some (some (.ref a)) ∧ ∀ o, Own K cl (upd H a o) G a d → Ok K cl hx R H0 G0 (upd H a o) G σ δ' := by
  unfold putV at e
  cases q : δ[j]? with
  | none => rw [q] at e; cases e
  | some s =>
    rw [q] at e
    dsimp only at e
    cases hO : isO s with
    | false => rw [hO] at e; simp at e
    | true =>
      rw [hO] at e
      simp only [if_true] at e
      cases e
      obtain ⟨x, ex, w⟩ := k.at q
      obtain ⟨a, d0, rfl, ga, ow, _⟩ := w.ex hO
      obtain ⟨u, hu⟩ := ow.ex
      have hj : j < δ.length := (List.getElem?_eq_some_iff.mp q).1
      refine ⟨a, ex, fun o w' => ?_⟩
      have fr : Frm [a] H G (upd H a o) G := ⟨.refl G, fun b v z => by rw [upd_ne (ne_of_none z ga)]; exact k.sub b v z, fun b v z hb => by rw [upd_ne (fun z' => hb (by rw [z']; exact List.mem_cons_self))]; exact z, fun b v z => .inl z⟩
      refine k.frame fr (by rw [List.length_set]) (fun i t e1 o1 => ?_) (fun i t b e1 o1 e2 => ?_) fun b hb => ?_
      · have : i ≠ j := fun z => by rw [z, q] at e1; cases e1; rw [hO] at o1; cases o1
        rw [List.getElem?_set_ne (Ne.symm this)]; exact e1
      · by_cases hi : i = j
        · subst hi
          rw [q] at e1; cases e1
          rw [ex] at e2; cases e2
          exact ⟨d, by rw [List.getElem?_set_self hj], ga, w'⟩
        · obtain ⟨a', d', z, ga', ow', sd⟩ := (k.sl i t _ e1 e2).ex o1
          cases z
          have ne : b ≠ a := fun z => hi (k.sep i j t s a e1 q o1 hO (by rw [e2, z]) ex)
          refine ⟨d', by rw [List.getElem?_set_ne (Ne.symm hi), e1]; rcases sd with rfl | rfl <;> rfl, ga', ow'.mono (.refl G) fun v z => by rw [upd_ne ne]; exact z⟩
      · have : b = a := by simpa using hb
        subst this
        exact ⟨j, s, q, hO, ex⟩
/-- x[i] = e -/
def sPut (j : Nat) (fe fi : DE) : DS := fun δ => (fe δ).to fun v δ1 => match look δ1 j with
  | some _ => (fi δ1).to fun i δ2 => match look δ2 j, i with
    | some (.lst ds), .int n => (match ixN ds.length n with
      | some m => oNx (putV j (.lst (ds.set m v)) δ2)
      | none => .st)
    | _, _ => .st
  | none => .st
theorem look_own {K : PySem.W.Frag} {cl : Cw} {hx : Addr × Option Addr} {R : List (Nat × Addr)} {H0 G0 H G : Hp} {σ : L2.St} {δ : DEnv} (k : Ok K cl hx R H0 G0 H G σ δ) {j : Nat} {d e : D} {δ' : DEnv} (e1 : look δ j = some d) (e2 : putV j e δ = some δ') {a : Addr} (ea : σ[j]? = some (some (.ref a))) : Own K cl H G a d := by
  unfold putV at e2
  unfold look at e1
  cases q : δ[j]? with
  | none => rw [q] at e2; cases e2
  | some s =>
    rw [q] at e1 e2
    obtain ⟨x, ex, w⟩ := k.at q
    rw [ea] at ex
    cases ex
    cases s with
    | own d' => cases e1; obtain ⟨a', z, _, _, r⟩ := w; cases z; exact r
    | rf d' => cases e1; obtain ⟨a', z, _, r⟩ := w; cases z; exact r
    | un => cases e1
    | val d' => simp [isO] at e2
    | exc c ns ds => cases e1
theorem js_put {o i e : Expr} {j : Nat} {fe fi : DE} {tp : Pos} (po : PE X o (tVar j)) (hi : JE c X i fi) (he : JE c X e fe)
    (ha : ∀ v, assign (.Subscript o i tp) X.env v = (do
      let ov ← holding [v] (eval o X.env)
      let iv ← holding [v, ov] (eval i X.env)
      standAt tp
      holding [v, ov, iv] (setItem ov iv v)
      release [v, ov, iv] []) := by intro _; rfl)
    (hs : swapsWithSole [.Subscript o i tp] e pos.line X.env = pure false := by rfl) (hw : swappedStores [.Subscript o i tp] e X.env = pure none := by rfl)
    (h1 : (assignEach [.Subscript o i tp] X.env).map (·.2) = [assign (.Subscript o i tp) X.env] := by rfl) : JS c X (.Assign [.Subscript o i tp] e pos) (sPut j fe fi) := by
  refine js_of (ps_asg (peS X e) (pg_sub po (peS X i) set_list ha) hs hw h1) fun R H0 G0 H G σ δ D' k h => ?_
  refine he R H0 G0 H G σ δ _ k (EPost.imp (SPost.ofE h) fun v H1 ⟨G1, d, δ1, s1, k1, r1, h1⟩ => ?_)
  cases q0 : look δ1 j with
  | none => rw [q0] at h1; exact h1.elim
  | some d0 =>
    rw [q0] at h1
    obtain ⟨u, eu, _⟩ := look_ok k1 q0
    refine ⟨u, eu, ?_⟩
    refine hi R H0 G0 H1 G1 σ δ1 _ k1 (EPost.imp (SPost.ofE h1) fun y H2 ⟨G2, e2, δ2, s2, k2, r2, h2⟩ => ?_)
    cases q1 : look δ2 j with
    | none => simp only [q1] at h2; exact h2.elim
    | some d1 =>
      cases r2 with
      | int n =>
        cases d1 with
        | lst ds =>
          simp only [q1] at h2
          cases q2 : ixN ds.length n with
          | none => simp only [q2] at h2; exact h2.elim
          | some m =>
            simp only [q2] at h2
            cases q3 : putV j (.lst (ds.set m d)) δ2 with
            | none => simp only [q3] at h2; exact h2.elim
            | some δ3 =>
              simp only [q3] at h2
              obtain ⟨a, ea, kk⟩ := ownd_put k2 q3
              rw [eu] at ea
              cases ea
              obtain ⟨xs, x1, x2⟩ := look_own k2 q1 q3 eu
              refine ⟨a, xs, n, m, rfl, rfl, x1, by rw [x2.length]; exact q2, ?_⟩
              exact h2 σ _ G2 (.refl G2) (kk _ ⟨_, upd_same, x2.set m (Rep.mono s2 r1)⟩)
        | _ => simp only [q1] at h2; exact h2.elim
      | _ => cases d1 <;> (simp only [q1] at h2; exact h2.elim)
/-- x.append(e) as a statement -/
def sApp (j : Nat) (fe : DE) : DS := fun δ => match look δ j with
  | some (.lst _) => (fe δ).to fun v δ1 => (match look δ1 j with
    | some (.lst ds) => if ds.length < sizeLine then oNx (putV j (.lst (ds ++ [v])) δ1) else .st
    | _ => .st)
  | _ => .st
theorem js_app {o e : Expr} {j : Nat} {fe : DE} {ap cp : Pos} (po : PE X o (tVar j)) (he : JE c X e fe)
    (hbase : attributeBase o "append" X.env (eval o X.env) = eval o X.env := by rfl)
    (hfew : ((backTo cp (starEach (e :: []) X.env)).all (fun x => !x.1) && (backToKw cp (keywordEach [] X.env)).all (fun x => x.1.isSome)
      && decide ((e :: ([] : List Expr)).length + ([] : List Keyword).length + (if ([] : List Keyword).isEmpty then 0 else 1) < 30)) = true := by rfl)
    (hline : (ap.endLine == cp.line) = true := by rfl) (hs : starEach (e :: []) X.env = (false, eval e X.env) :: starEach [] X.env := by rfl) (hplain : (backTo cp (starEach [] X.env)).any (·.1) = false := by rfl)
    (hsw : swapsWith (.Call (.Attribute o "append" ap) [e] [] cp) none pos.line X.env = pure false := by rfl) : JS c X (.Expr (.Call (.Attribute o "append" ap) [e] [] cp) pos) (sApp j fe) := by
  refine js_of (ps_expr (pe_bm PySem.F.plainAttrs_list PySem.F.slot_list_append PySem.F.type_list_append mt_append po (pa_cons (peS X e) pa_nil hs) hbase hfew hline hs hplain) hsw) fun R H0 G0 H G σ δ D' k h => ?_
  unfold sApp at h
  cases q0 : look δ j with
  | none => rw [q0] at h; exact h.elim
  | some d0 =>
    cases d0 with
    | lst ds0 =>
      rw [q0] at h
      dsimp only at h
      obtain ⟨u, eu, w0⟩ := look_ok k q0
      refine ⟨u, eu, ?_, ?_⟩
      · rcases w0 with w0 | ⟨a, rfl, xs, w1, w2⟩
        · cases w0 with
          | @lst a xs _ w1 w2 => exact .inl ⟨rfl, xs, .inl (.inl (k.sub _ _ w1))⟩
        · exact .inl ⟨rfl, xs, .inl (.inl w1)⟩
      refine he R H0 G0 H G σ δ _ k (EPost.imp (SPost.ofE h) fun v H1 ⟨G1, d, δ1, s1, k1, r1, h1⟩ => ?_)
      cases q1 : look δ1 j with
      | none => simp only [q1] at h1; exact h1.elim
      | some d1 =>
        cases d1 with
        | lst ds =>
          simp only [q1] at h1
          by_cases hl : ds.length < sizeLine
          · rw [if_pos hl] at h1
            cases q3 : putV j (.lst (ds ++ [d])) δ1 with
            | none => simp only [q3] at h1; exact h1.elim
            | some δ3 =>
              simp only [q3] at h1
              obtain ⟨a, ea, kk⟩ := ownd_put k1 q3
              rw [eu] at ea
              cases ea
              obtain ⟨xs, x1, x2⟩ := look_own k1 q1 q3 eu
              refine ⟨a, xs, v, rfl, rfl, x1, by rw [x2.length]; exact hl, ?_⟩
              exact h1 σ _ G1 (.refl G1) (kk _ ⟨_, upd_same, x2.append (.cons r1 .nil)⟩)
          · rw [if_neg hl] at h1; exact h1.elim
        | _ => simp only [q1] at h1; exact h1.elim
    | _ => rw [q0] at h; exact h.elim
/-- x op= e -/
def sAug (i : Nat) (g : D → D → Option D) (fe : DE) : DS := fun δ => match δ[i]? with
  | some (.val x) => (fe δ).to fun y δ1 => (match g x y with
    | some z => oNx (setV i z δ1)
    | none => .st)
  | _ => .st
end
end DL

set_option maxRecDepth 100000
set_option maxHeartbeats 4000000
namespace DL
open PySem PySem.Spec PyProof.Rows L2

/-! ### isinstance of built-in types -/
def tyD : D → Option String
  | .non => some "NoneType"
  | .bl _ => some "bool"
  | .int _ => some "int"
  | .str _ => some "str"
  | .lst _ => some "list"
  | .tup _ => some "tuple"
  | .tpn _ => some "tuple"
  | .dct _ _ => some "dict"
  | _ => none
def subT (t T : String) : Bool := t == T || (t == "bool" && T == "int")
def tyNames : List String := ["NoneType", "bool", "int", "str", "list", "tuple", "dict"]
def tyAsked : List String := ["bool", "int", "str", "list", "tuple", "dict"]
theorem kit_all : (tyNames.all fun t => tyAsked.all fun T => decide (kitB t T = some (subT t T))) = true := by decide +kernel
theorem kit_one {K : PySem.W.Frag} {t T : String} (ht : t ∈ tyNames) (hT : T ∈ tyAsked) : PySem.W.kitOne K (.type t) (.type T) = some (subT t T) :=
  kit_ty (of_decide_eq_true (List.all_eq_true.mp (List.all_eq_true.mp kit_all t ht) T hT))
theorem tyD_mem {d : D} {t : String} (e : tyD d = some t) : t ∈ tyNames := by
  cases d <;> simp [tyD] at e <;> subst e <;> decide
theorem tyD_ok {K : PySem.W.Frag} {cl : Cw} {H G : Hp} (s : Sub G H) {v : V} {d : D} {t : String} (r : Rep K cl G v d) (e : tyD d = some t) : TyX K H v (.type t) := by
  cases r with
  | non => cases e; exact .base .non
  | bl b => cases e; exact .base (.bl b)
  | int i => cases e; exact .base (.int i)
  | str x => cases e; exact .base (.str x)
  | lst h1 h2 => cases e; exact .base (.lst (s _ _ h1))
  | tup h1 h2 =>
    cases e
    rcases s.sqT h1 with (h | ⟨o, h⟩) | ⟨o, its, n, h, hc, _⟩
    · exact .base (.tup h)
    · exact .fTuple h
    · exact .kTuple h hc
  | dct h1 _ h2 => cases e; exact .base (.dK (s _ _ h1))
  | ins _ _ _ _ => cases e
  | scr _ => cases e
  | rng _ => cases e
  | set _ _ => cases e
  | tpn h1 _ _ _ => cases e; exact .fTuple (s _ _ h1)
  | exv0 _ _ => cases e
  | exv _ _ _ _ _ _ => cases e
def dIsi (Ts : List String) (fe : DE) : DE := fun δ => (fe δ).bind fun d δ1 => match tyD d with
  | some t => .ok (.bl (Ts.any (subT t))) δ1
  | none => .st
section
variable {c : Cf} {X : Cx} {e : Expr} {es : List Expr} {fe fb : DE} {fs : DA} {p pos pt p2 : Pos}
theorem je_isi {x T : Str} {T' : String} (hT : T' ∈ tyAsked) (hg : Gl X "isinstance") (hm : X.mg "isinstance" = none) (pe2 : PE X (.Name T pt) (tC (.ty T'))) (he : JE c X e fe)
    (hs : starEach (e :: [.Name T pt]) X.env = (false, eval e X.env) :: starEach [.Name T pt] X.env := by rfl) (hs2 : starEach [.Name T pt] X.env = (false, eval (.Name T pt) X.env) :: starEach [] X.env := by rfl) (hpl : (backTo pos (starEach [.Name T pt] X.env)).any (·.1) = false := by rfl) :
    JE c X (.Call (.Name "isinstance" p) [e, .Name T pt] [] pos) (dIsi [T'] fe) := by
  refine je_of (pe_callB call_isi hg hm (by decide +kernel) (pa_cons (peS X e) (pa_cons pe2 pa_nil hs2) hs) (by decide) (by decide) hs hpl) fun R H0 G0 H G σ δ Q k h => ?_
  refine he R H0 G0 H G σ δ _ k (EPost.imp (EPost.bind h) fun x H1 ⟨G1, d, δ1, s1, k1, r1, h1⟩ => ?_)
  cases q : tyD d with
  | none => rw [q] at h1; exact h1.elim
  | some t =>
    rw [q] at h1
    refine ⟨x, .ty T', _, _, _, rfl, .ty T', tyD_ok k1.sub r1 q, kit_one (tyD_mem q) hT, ?_⟩
    have := h1 (.bl ([T'].any (subT t))) H1 G1 (.refl G1) k1 (.bl _)
    simpa using this
/-! ### in -/
/-! ### x op= y by value -/
end

/-! ### raise, try -/
/-- what the written part says of an own exception class without __init__ of its own -/
structure ExcC (K : PySem.W.Frag) (mg : Str → Option Value) (cl : Cw) (x : Str) (C : Addr) : Prop where
  gC : mg x = some (.ref C)
  q : PySem.W.excIn K C [.type "ValueError", .type "Exception", .type "BaseException", .type "object"] "ValueError.__new__" = true
  kC : PySem.W.keepIn K (.ref C) = true
  exC : PySem.W.subIn K (.ref C) (.type "BaseException") = some true
  tyC : PySem.W.typeIn K (.ref C) = some (.type "type")
  cl : cl x = some C
section
variable {c : Cf} {X : Cx} {x : Str} {C : Addr} {p pos : Pos}
theorem pmk_own0 {bmB : List Value} {B newId initId : String} (F : ExcBaseFacts B newId initId bmB) (q : PySem.W.excIn X.K C bmB newId = true) (gC : X.mg x = some (.ref C)) (kC : PySem.W.keepIn X.K (.ref C) = true) (r : Raises X (.ref C)) (hg : Gl X x)
    (hdb : (x == ("__debug__" : Str)) = false := by decide) : PMk X (.Call (.Name x p) [] [] pos) (fun _ H Q => Q (.ref C) none H) := by
  intro pins s σ H Q I h
  refine wpAny_Call_Name_kw (ld_glob I hg gC ?_ hdb)
  refine PySem.W.callWith_K0 I.kIn kC ?_
  show wpAny _ _ (call (.ref C) []) _ _ _
  obtain ⟨bm, N, nm, qn, bs, hdct, sn, sub, ab, col, dd, k0, k1, k2, k3, k5, mN, hC, hN, hni, T⟩ := exc_obj I.kIn q
  refine wpAny_call_exc_subT F T hC hN hni (fun h' e hm => ?_) (Nat.zero_le _)
  exact mk_of I hm r h (I.hok.gone hm.new)
/-- which handler takes which class -/
def ExmTab (K : PySem.W.Frag) (cl : Cw) (tab : Str → Str → Option Bool) : Prop := ∀ (a b : Str) (r : Bool) (A B : Addr), tab a b = some r → cl a = some A → cl b = some B → PySem.W.exmOne K (.ref A) (.ref B) = some r
def tryH (tab : Str → Str → Option Bool) : List (Str × DS) → Str → List Str → List D → DEnv → SO
  | [], cn, ns, ds, δ => .ex cn ns ds δ
  | (h, s) :: r, cn, ns, ds, δ => match tab cn h with
    | some true => (match s δ with
      | .ex _ _ _ _ => .st
      | o => o)
    | some false => tryH tab r cn ns ds δ
    | none => .st
def sTry (tab : Str → Str → Option Bool) (f : DS) (hs : List (Str × DS)) : DS := fun δ => match f δ with
  | .ex cn ns ds δ1 => tryH tab hs cn ns ds δ1
  | o => o
/-- the handlers -/
inductive HdsD (c : Cf) (X : Cx) : List ExceptHandler → List (Str × DS) → List (Value × (Addr → Value → Option Addr → TS)) → Prop
  | nil : HdsD c X [] [] []
  | cons {y : Str} {C : Addr} {b₀ : Stmt} {suite : List Stmt} {np pos' : Pos} {hds : List ExceptHandler} {hs : List (Str × DS)} {l : List (Value × (Addr → Value → Option Addr → TS))} {f : DS}
      (hc : Names X y (.ref C)) (hcl : c.cl y = some C) (hsu : ∀ (a : Addr) (oe : Obj) (cls : Value) (d : Option Addr) (pn : List (Addr × Obj)), Zc cls d oe → JSs ⟨fun _ _ _ _ => False, c.cl, c.hx⟩ (X.suite a ((a, oe) :: pn)) (b₀ :: suite) f) (r : HdsD c X hds hs l) :
      HdsD c X (.ExceptHandler (some (.Name y np)) none (b₀ :: suite) pos' :: hds) ((y, f) :: hs) ((.ref C, fun a cls d D σ H => ∀ oe pn, Zc cls d oe → (∃ vs, oe.data = .fields vs) → tSs (X.suite a ((a, oe) :: pn)) (b₀ :: suite) D σ H) :: l)
theorem HdsD.ok {hds : List ExceptHandler} {hs : List (Str × DS)} {l : List (Value × (Addr → Value → Option Addr → TS))} (h : HdsD c X hds hs l) : HdsOk X hds l := by
  induction h with
  | nil => exact .nil
  | cons hc hcl hsu r ih => exact .cons hc (fun a oe cls d pn z hf => ⟨fun pins s σ H D I q => q oe pn z hf pins s I⟩) ih
theorem HdsD.wish {tab : Str → Str → Option Bool} (ht : ExmTab X.K c.cl tab) {hds : List ExceptHandler} {hs : List (Str × DS)} {l : List (Value × (Addr → Value → Option Addr → TS))} (h : HdsD c X hds hs l) {R : List (Nat × Addr)} {H0 G0 H G : Hp} {σ : L2.St} {δ : DEnv} {D' : Ends} {cn : Str} {ns : List Str} {ds : List D} {cls : Value} {dd : Option Addr}
    (k : (c.fx X R H0 G0).Ok H G σ δ) (xo : XOk X.K c.cl G cn ns ds cls dd) (q : SPost (c.fx X R H0 G0) c.W G (tryH tab hs cn ns ds δ) D') : wMany X.K c.W D' l cls dd σ H := by
  obtain ⟨A, rfl, hA, xr⟩ := xo
  induction h with
  | nil => exact q (.ref A) dd σ H G (.refl G) k ⟨A, rfl, hA, xr⟩
  | @cons y C b₀ suite np pos' hds hs l f hc hcl hsu r ih =>
    unfold tryH at q
    cases e : tab cn y with
    | none => rw [e] at q; exact q.elim
    | some b =>
      rw [e] at q
      refine ⟨b, ht cn y b A C e hA hcl, fun hb a na => ?_, fun hb => ?_⟩
      · subst hb
        dsimp only at q
        intro oe pn z hf
        refine hsu a oe (.ref A) dd pn z R H0 G0 H G σ δ D' k ?_
        cases e2 : f δ with
        | ex cn' ns' ds' δ' => rw [e2] at q; exact q.elim
        | nx δ' => rw [e2] at q; exact q
        | rt d δ' => rw [e2] at q; exact q
        | ro d δ' => rw [e2] at q; exact q
        | bk δ' => rw [e2] at q; exact q
        | ct δ' => rw [e2] at q; exact q
        | st => rw [e2] at q; exact q
      · subst hb
        exact ih q
end

/-! ### the end -/
def spTrue (K : PySem.W.Frag) : Sp := fun vs H Q _ => ∃ (a : Addr) (ns : List Int), vs = [.ref a] ∧ SqL K H a (ns.map V.int) ∧ ns.length ≤ 63 ∧ ∀ H', Q (.bl true) H'
theorem law_true {P : Program} {w : World} {K : PySem.W.Frag} {mg : Str → Option Value} {base : Heap} {cl : Cw} {k : Nat} {f : Addr} {fd : FuncData} {ps : List Str} {fn : List D → FO} (F : FnOk P w K mg base (L2.CX P w) k f fd ps (SpF K cl [false] fn))
    (h : ∀ ns : List Int, ns.length ≤ 63 → fn [.scr ns] = .ret (.bl true) []) : FnOk P w K mg base (L2.CX P w) k f fd ps (spTrue K) := by
  refine F.imp fun vs H Q E q => ?_
  obtain ⟨a, ns, rfl, hS, hl, q⟩ := q
  refine ⟨H, [.scr ns], .refl H, .val (.scr hS) .nil, .nil, ?_⟩
  rw [h ns hl]
  intro v H' G' _ _ r
  cases r
  exact q H'
theorem cx_none {P : Program} {w : World} {H : Hp} {s s' : Shared} {e : Value} (h : L2.CX P w [] H s (fun _ _ _ => False) e s') : False := by
  obtain ⟨_, _, _, _, _, _, _, _, _, _, _, _, z⟩ := h
  exact z.elim
end DL

set_option maxRecDepth 100000
set_option maxHeartbeats 4000000
namespace DL
open PySem PySem.Spec PyProof.Rows L2
theorem hu64 {k : Nat} {A : Around} (r : Room k A) : A.units + 64 < cLine := by have := r.un; omega
section
variable {c : Cf} {X : Cx} {tg e : Expr} {fe : DE} {pos : Pos}
variable {elt iter : Expr} {ifs : List Expr} {scope : Scope} {own : List (Str × Nat)} {ts : List Nat} {it : DI} {A : D → DEnv → Option DEnv} {t : DT} {el : DE} {i : Nat} {y : Str} {py spos : Pos}
/-- a, b = e -/
def sUnp (A : D → DEnv → Option DEnv) (f : DE) : DS := fun δ => (f δ).to fun d δ1 => oNx (A d δ1)
end
end DL

set_option maxRecDepth 100000
set_option maxHeartbeats 4000000
namespace DL
open PySem PySem.Spec PyProof.Rows L2
def dRefA (j : Nat) (fs : DA) : DA := fun δ => match δ[j]? with | some s => if isO s then dRef j fs δ else .st | none => .st
section
variable {c : Cf} {X : Cx} {e : Expr} {es : List Expr} {fs : DA}
theorem ja_refA {j : Nat} (p : PE X e (tVar j)) (hr : JA c X es fs) (hs : starEach (e :: es) X.env = (false, eval e X.env) :: starEach es X.env := by rfl) : JA c X (e :: es) (dRefA j fs) := ja_ref p hr hs
end
/-- no call is left -/
theorem none_ok {P : Program} {w : World} {K : PySem.W.Frag} {mg : Str → Option Value} {base : Heap} {cl : Cw} {k : Nat} {f : Addr} {fd : FuncData} {ps : List Str} {ks : List Bool} {fn : List D → FO} (h : ∀ ds, fn ds = .st) : FnOk P w K mg base (L2.CX P w) k f fd ps (SpF K cl ks fn) := by
  have no : ∀ vs H Q E, ¬ SpF K cl ks fn vs H Q E := fun vs H Q E q => by
    obtain ⟨G, ds, _, _, _, q⟩ := q
    rw [h ds] at q
    exact q
  exact ⟨fun vs H Q E q => absurd q (no vs H Q E), fun A outer s H args us vs Q E _ _ _ _ q => absurd q (no vs H Q E)⟩
/-- a def with defaults -/
theorem def_okD {P : Program} {w : World} {K : PySem.W.Frag} {mg : Str → Option Value} {base : Heap} {cl : Cw} {x qual : Str} {st : Stmt} {f : Addr} {fd : FuncData} {N ps : List Str} {k : Nat} {ks : List Bool} {F : DS} {dvs : List V} {kws : List (Str × V)}
    (FF : FunD K x qual (defArgs st) (defBody st) (defScope st) dvs kws f fd) (S : FnScope N ps (defScope st)) (hk : ks.length = ps.length)
    (hbody : ∀ (cdv : Value) (A : Around) (outer : List Env) (s : Shared) (H : Hp) (E : XK), Room k (A.deeper (envOfC qual (defScope st) s.heap.objs.size f cdv)) →
      Takes (cxOf (L2.CX P w) P w K mg base N qual (defScope st) f cdv A outer s H E) (fun c d _ H => E c d H) →
      PassesOwn (model P w) (A.deeper (envOfC qual (defScope st) s.heap.objs.size f cdv)) (envOfC qual (defScope st) s.heap.objs.size f cdv) (cxOf (L2.CX P w) P w K mg base N qual (defScope st) f cdv A outer s H E).xe →
      JSs ⟨fun c d _ H => E c d H, cl, (0, none)⟩ (cxOf (L2.CX P w) P w K mg base N qual (defScope st) f cdv A outer s H E) (defBody st) F) :
    FnOk P w K mg base (L2.CX P w) (k + 1) f fd ps (SpF K cl ks (defF ks N.length F)) := by
  exact FF.ok S (spF_len hk) (def_read S hk hbody)
def tabOf (l : List (Str × Str × Bool)) (a b : Str) : Option Bool := (l.find? fun p => decide (p.1 = a) && decide (p.2.1 = b)).map (·.2.2)
theorem tab_ok {K : PySem.W.Frag} {cl : Cw} {l : List (Str × Str × Bool)} (h : ∀ p ∈ l, ∃ A B, cl p.1 = some A ∧ cl p.2.1 = some B ∧ PySem.W.exmOne K (.ref A) (.ref B) = some p.2.2) : ExmTab K cl (tabOf l) := fun a b r A B e ha hb => by
  unfold tabOf at e
  rw [Option.map_eq_some_iff] at e
  obtain ⟨p, e1, rfl⟩ := e
  have hm := List.mem_of_find?_eq_some e1
  have hp := List.find?_some e1
  simp only [Bool.and_eq_true, decide_eq_true_eq] at hp
  obtain ⟨A', B', q1, q2, q3⟩ := h p hm
  rw [hp.1, ha] at q1
  rw [hp.2, hb] at q2
  cases q1; cases q2
  exact q3
end DL

set_option maxRecDepth 100000
set_option maxHeartbeats 4000000
namespace DL
open PySem PySem.Spec PyProof.Rows L2

/-! ### a list or a tuple, by kind -/
def IsK (k : Bool) (h : Heap) (a : Addr) (its : Array Value) : Prop := match k with | true => h.IsTuple a its | false => h.IsList a its
def IsKi (k : Bool) (h : Heap) (it a : Addr) (i : Nat) : Prop := match k with | true => h.IsTupleIter it a i | false => h.IsListIter it a i
def itK (k : Bool) (a : Addr) : Obj := match k with
  | true => { cls := .type "tuple_iterator", data := .fields #[.ref a, .int 0 0] }
  | false => { cls := .type "list_iterator", data := .fields #[.ref a, .int 0 0] }
theorem IsK.lt {k : Bool} {h : Heap} {a : Addr} {its : Array Value} (p : IsK k h a its) : a < h.objs.size := by
  cases k with
  | true => obtain ⟨o, e, _⟩ := p; exact Heap.lt_size e
  | false => obtain ⟨o, e, _⟩ := p; exact Heap.lt_size e
theorem IsK.at {k : Bool} {h h' : Heap} {a : Addr} {its : Array Value} (p : IsK k h a its) (e : ∀ o, h.get? a = some o → h'.get? a = some o) : IsK k h' a its := by
  cases k with
  | true => exact Heap.IsTuple.at p e
  | false => exact Heap.IsList.at p e
theorem IsKi.at {k : Bool} {h h' : Heap} {it a : Addr} {i : Nat} (p : IsKi k h it a i) (e : ∀ o, h.get? it = some o → h'.get? it = some o) : IsKi k h' it a i := by
  cases k with
  | true => exact Heap.IsTupleIter.at p e
  | false => exact Heap.IsListIter.at p e
theorem IsKi.new {k : Bool} {h : Heap} {it a : Addr} (e : h.get? it = some (itK k a)) : IsKi k h it a 0 := by
  cases k with
  | true => exact ⟨_, e, rfl, rfl⟩
  | false => exact ⟨_, e, rfl, rfl⟩
section
variable {X : Cx} {pins : List (Addr × Obj)} {σ : L2.St} {H : Hp} {s : Shared} {a : Addr} {xs ys : List V} {k : Bool}
end
/-! ### enumerate -/
/-! ### zip of two -/
/-! ### by data -/
def seqD : D → Option (List D)
  | .lst ds => some ds
  | .tup ds => some ds
  | .tpn ds => some ds
  | .scr ns => some (ns.map D.int)
  | _ => none
def enumD (n : Nat) : List D → List D
  | [] => []
  | d :: ds => .tup [.int (n : Int), d] :: enumD (n + 1) ds
def dEn (fe : DE) : DI := fun δ => (fe δ).bind fun d δ1 => match seqD d with
  | some ds => .ok (enumD 0 ds) δ1
  | none => .st
def zipD : List D → List D → List D
  | d :: ds, e :: es => .tup [d, e] :: zipD ds es
  | _, _ => []
def dZp (fa fb : DE) : DI := fun δ => (fa δ).bind fun x δ1 => (fb δ1).bind fun y δ2 => match seqD x, seqD y with
  | some ds, some es => .ok (zipD ds es) δ2
  | _, _ => .st
section
variable {c : Cf} {X : Cx} {e e2 : Expr} {fa fb : DE} {p pos tpos : Pos} {elts : List Expr} {kk : Nat}
/-! ### what is never come to -/
/-! ### list(range(..)), tuple(range(..)) -/
def dRgL (fa : DE) : DE := fun δ => (fa δ).bind fun x δ1 => match x with
  | .int j => if 0 ≤ j ∧ j ≤ 16777216 then .ok (.lst (rngD 0 j)) δ1 else .st
  | _ => .st
end
end DL

set_option maxRecDepth 100000
set_option maxHeartbeats 4000000
namespace DL
open PySem PySem.Spec PyProof.Rows L2
/-- a def that may be called: n values are written, the data dds fill up -/
def Cal (P : Program) (w : World) (K : PySem.W.Frag) (mg : Str → Option Value) (base : Heap) (cl : Cw) (k : Nat) (x : Str) (ks : List Bool) (fn : List D → FO) (dds : List D) : Prop :=
  ∃ f fd ps ds dvs, DefOk P w K mg base cl k x ks fn f fd ps ∧ Binds K fd ps ds ∧ Vals dvs ds ∧ ∀ G, RepL K cl G dvs dds
section
variable {P : Program} {w : World} {K : PySem.W.Frag} {mg : Str → Option Value} {base : Heap} {cl : Cw} {j k : Nat} {x : Str} {ks : List Bool} {fn : List D → FO} {dds : List D}
theorem Cal.mono (c : Cal P w K mg base cl j x ks fn dds) (h : j ≤ k) : Cal P w K mg base cl k x ks fn dds := by
  obtain ⟨f, fd, ps, ds, dvs, h1, h2⟩ := c
  exact ⟨f, fd, ps, ds, dvs, h1.mono h, h2⟩
end
section
variable {c : Cf} {X : Cx} {e : Expr} {es : List Expr} {fs : DA} {p pos : Pos} {k : Nat} {x : Str} {ks : List Bool} {fn : List D → FO} {dds : List D}
theorem je_callC (C : Cal X.prog X.w X.K X.mg X.base c.cl k x ks fn dds) (hr : Room k X.A) (tk : Takes X c.W) (ha : JA c X (e :: es) fs) (hg : Gl X x := by rfl)
    (hdb : (x == ("__debug__" : Str)) = false := by decide) (he : starEach (e :: es) X.env = (false, eval e X.env) :: starEach es X.env := by rfl) (hpl : (backTo pos (starEach es X.env)).any (·.1) = false := by rfl) :
    JE c X (.Call (.Name x p) (e :: es) [] pos) (dCall ks dds fn fs) := by
  obtain ⟨f, fd, ps, ds, dvs, h1, h2, h3, h4⟩ := C
  exact je_call h1 hr tk hg h2 h3 h4 ha hdb he hpl
theorem jf_callC (C : Cal X.prog X.w X.K X.mg X.base c.cl k x ks fn dds) (hr : Room k X.A) (tk : Takes X c.W) (ha : JA c X (e :: es) fs) (hg : Gl X x := by rfl)
    (hdb : (x == ("__debug__" : Str)) = false := by decide) (he : starEach (e :: es) X.env = (false, eval e X.env) :: starEach es X.env := by rfl) (hpl : (backTo pos (starEach es X.env)).any (·.1) = false := by rfl) :
    JF c X (.Call (.Name x p) (e :: es) [] pos) (dCallO ks dds fn fs) := by
  obtain ⟨f, fd, ps, ds, dvs, h1, h2, h3, h4⟩ := C
  exact jf_call h1 hr tk hg h2 h3 h4 ha hdb he hpl
theorem je_callC0 (C : Cal X.prog X.w X.K X.mg X.base c.cl k x ks fn dds) (hr : Room k X.A) (tk : Takes X c.W) (hg : Gl X x := by rfl) (hdb : (x == ("__debug__" : Str)) = false := by decide) :
    JE c X (.Call (.Name x p) [] [] pos) (dCall ks dds fn dNil) := by
  obtain ⟨f, fd, ps, ds, dvs, h1, h2, h3, h4⟩ := C
  exact je_call0 h1 hr tk hg h2 h3 h4 hdb
theorem pe_tyn {T : Str} {T' : String} (hm : X.mg T = none) (hv : bootBuiltins T = some (.type T')) (hn : T ≠ "__name__" := by decide) (hg : Gl X T := by rfl) (hd : (T == ("__debug__" : Str)) = false := by decide) : PE X (.Name T p) (tC (.ty T')) := pe_bltn (v := .ty T') hg hm hv rfl hn hd
end
/-- the law's def over a head by facts; what leaves it may hang on the world -/
theorem walk_ofW {l : PySem.W.OpenLaw} {n k : Nat} {q : Program} {loose : List Str} {XP : (Str → Option Value) → Heap → Prop} {YP : World → Heap → Prop} {d : DefRec} {C' : World → CXT} {x : Str} (hn : l.most = some n) (hn2 : n ≤ sizeLine) (hdf : d.params.defaults = []) (hr : Room k callerA)
    (F : ∀ (w : World) (mg : Str → Option Value) (fa : Addr) (h : Heap), YP w h → h.Ns mainGlobals mg → mg d.name = some (.ref fa) → ∃ (K : PySem.W.Frag) (fd : FuncData) (sp : Sp), K.In h ∧ (∀ (s : Shared) (u : Value), BindsTo s fd ⟨[u], []⟩ [(x, u)]) ∧
        (∀ (H : Hp) (a : Addr) (ns : List Int), ns.length ≤ n → Only H → SqL K H a (ns.map V.int) → sp [.ref a] H (fun v _ => v = .bl true) fun _ _ _ => False) ∧ ∀ base : Heap, K.In base → base.Ns mainGlobals mg → FnOk l.prog w K mg base (C' w) k fa fd [x] sp)
    (hC : ∀ (w : World) (H : Hp) (s : Shared) (e : Value) (s' : Shared), C' w [] H s (fun _ _ _ => False) e s' → False) : PySem.W.WalkO q loose XP YP l.row.toRowW d [] (fun f vs => PySem.call f vs) := by
  refine Att.attach_call hn hdf fun w s₀ s₁ mg mb fa o pm cd doc a vs ns G Y ho hd hcd hmg hobj hints hlen hg => ?_
  obtain ⟨K, fd, sp, X1, hb, hsp, hF⟩ := F w mg fa _ Y G.T.g hmg
  exact law_call X1 G.T.g G.T.b G.T.builtins G.T.nolimit hg hobj hints (Nat.le_trans hlen hn2) hr hF hb (fun H hO hS => hsp H a ns hlen hO hS) fun H e s' => hC w H s₁ e s'
/-- the end by facts -/
theorem end_ofW {l : PySem.W.OpenLaw} {k : Nat} {q : Program} {loose : List Str} {XP : (Str → Option Value) → Heap → Prop} {YP : World → Heap → Prop} {d : DefRec} {x : Str} (hn : l.most = some 63) (hdf : d.params.defaults = []) (hr : Room k callerA)
    (F : ∀ (w : World) (mg : Str → Option Value) (fa : Addr) (h : Heap), YP w h → h.Ns mainGlobals mg → mg d.name = some (.ref fa) → ∃ (K : PySem.W.Frag) (fd : FuncData), K.In h ∧ (∀ (s : Shared) (u : Value), BindsTo s fd ⟨[u], []⟩ [(x, u)]) ∧
        ∀ base : Heap, K.In base → base.Ns mainGlobals mg → FnOk l.prog w K mg base (L2.CX l.prog w) k fa fd [x] (spTrue K)) : PySem.W.WalkO q loose XP YP l.row.toRowW d [] (fun f vs => PySem.call f vs) := by
  refine walk_ofW (x := x) (C' := fun w => L2.CX l.prog w) hn (by decide) hdf hr (fun w mg fa h Y G e => ?_) fun _ _ _ _ _ z => cx_none z
  obtain ⟨K, fd, h1, h2, h3⟩ := F w mg fa h Y G e
  exact ⟨K, fd, spTrue K, h1, h2, fun H a ns hl _ hS => ⟨a, ns, rfl, hS, hl, fun _ => rfl⟩, h3⟩
end DL

set_option maxRecDepth 100000
set_option maxHeartbeats 4000000
namespace DL
open PySem PySem.Spec PyProof.Rows L2
section
variable {c : Cf} {X : Cx} {x : Str} {p pos : Pos}
end
/-! ### written lists -/
section
variable {c : Cf} {X : Cx} {pos : Pos}
end
theorem excC_of {K : PySem.W.Frag} {h : Heap} {mg : Str → Option Value} {P0 : Program} {w0 : World} (X : K.In h) (G : h.Ns mainGlobals mg) {x : Str} (g : (He.Fa.glo x).ok K = true) (e : (He.Fa.exc x).ok K = true) : ∃ C, ExcC K mg (⟨fun x => some (He.ga K x), P0, w0⟩ : Cw) x C := by
  obtain ⟨q1, q2, q3, q4⟩ := He.exc_ok e
  exact ⟨He.ga K x, He.glo_ok X G g, q1, q2, q3, q4, rfl⟩
end DL

set_option maxRecDepth 100000
set_option maxHeartbeats 4000000
/-! the plain functions, reckoned from within -/
namespace DL
open PySem PySem.Spec PyProof.Rows L2
def oE : Option D → DEnv → EO D
  | some z, δ => .ok z δ
  | none, _ => .st
def oB : Option Bool → DEnv → EO Bool
  | some z, δ => .ok z δ
  | none, _ => .st
def varK : Option Sl → Nat → DEnv → EO D
  | some (.val d), _, δ => .ok d δ
  | some (.own d), i, δ => .ok d (δ.set i (.val d))
  | _, _, _ => .st
def binK2 (g : D → D → Option D) (x : D) : EO D → EO D
  | .ok y δ => oE (g x y) δ
  | .ex c n d δ => .ex c n d δ
  | .st => .st
def binK (g : D → D → Option D) (fb : DE) : EO D → EO D
  | .ok x δ => binK2 g x (fb δ)
  | .ex c n d δ => .ex c n d δ
  | .st => .st
def unK (g : D → Option D) : EO D → EO D
  | .ok x δ => oE (g x) δ
  | .ex c n d δ => .ex c n d δ
  | .st => .st
def unB (g : D → Option Bool) : EO D → EO Bool
  | .ok x δ => oB (g x) δ
  | .ex c n d δ => .ex c n d δ
  | .st => .st
def asB : D → Option Bool
  | .bl b => some b
  | _ => none
def andK (fb : DE) (x : D) (δ : DEnv) : Option Bool → EO D
  | some true => fb δ
  | some false => .ok x δ
  | none => .st
def orK (fb : DE) (x : D) (δ : DEnv) : Option Bool → EO D
  | some true => .ok x δ
  | some false => fb δ
  | none => .st
def and1 (fb : DE) : EO D → EO D
  | .ok x δ => andK fb x δ (dTruth x)
  | .ex c n d δ => .ex c n d δ
  | .st => .st
def or1 (fb : DE) : EO D → EO D
  | .ok x δ => orK fb x δ (dTruth x)
  | .ex c n d δ => .ex c n d δ
  | .st => .st
def ifK {α : Type} (fa fb : DEnv → EO α) : EO Bool → EO α
  | .ok true δ => fa δ
  | .ok false δ => fb δ
  | .ex c n d δ => .ex c n d δ
  | .st => .st
def okB (b : Bool) : DT := fun δ => .ok b δ
def notK : EO Bool → EO Bool
  | .ok x δ => .ok (!x) δ
  | .ex c n d δ => .ex c n d δ
  | .st => .st
def consK2 (x : D) : EO (List AV) → EO (List AV)
  | .ok xs δ => .ok (.v x :: xs) δ
  | .ex c n d δ => .ex c n d δ
  | .st => .st
def consK (fr : DA) : EO D → EO (List AV)
  | .ok x δ => consK2 x (fr δ)
  | .ex c n d δ => .ex c n d δ
  | .st => .st
def refK (j : Nat) : EO (List AV) → EO (List AV)
  | .ok xs δ => .ok (.r j :: xs) δ
  | .ex c n d δ => .ex c n d δ
  | .st => .st
def refA1 (j : Nat) (fr : DA) (δ : DEnv) : Option Sl → EO (List AV)
  | some (.own _) => refK j (fr δ)
  | some (.rf _) => refK j (fr δ)
  | _ => .st
def valsK (g : List D → Option D) : EO (List AV) → EO D
  | .ok as δ => match avs as with
    | some ds => oE (g ds) δ
    | none => .st
  | .ex c n d δ => .ex c n d δ
  | .st => .st
def gTupD (ds : List D) : Option D := if ds.length ≤ sizeLine then some (.tup ds) else none
def gLstD (ds : List D) : Option D := if ds.length ≤ sizeLine then some (.lst ds) else none
def endK (js : List Nat) (δ : DEnv) : FO → EO D
  | .ret d rs => match putR δ js rs with | some δ2 => .ok d δ2 | none => .st
  | .new d rs => match putR δ js rs with | some δ2 => .ok d δ2 | none => .st
  | .ex c ns es rs => match putR δ js rs with | some δ2 => .ex c ns es δ2 | none => .st
  | .st => .st
def endO (js : List Nat) (δ : DEnv) : FO → EO D
  | .ret _ _ => .st
  | .new d rs => match putR δ js rs with | some δ2 => .ok d δ2 | none => .st
  | .ex c ns es rs => match putR δ js rs with | some δ2 => .ex c ns es δ2 | none => .st
  | .st => .st
def goK (e : List Nat → DEnv → FO → EO D) (dvs : List D) (fn : List D → FO) (as : List AV) (δ : DEnv) : Option (List D) → EO D
  | some ds => e (avj as) δ (fn (ds ++ dvs))
  | none => .st
def callK (e : List Nat → DEnv → FO → EO D) (ks : List Bool) (dvs : List D) (fn : List D → FO) : EO (List AV) → EO D
  | .ok as δ => if avk as ++ dvs.map (fun _ => false) = ks ∧ nodupB (avj as) = true then goK e dvs fn as δ (avd δ as) else .st
  | .ex c n d δ => .ex c n d δ
  | .st => .st
def itK1 (f : D → Option (List D)) : EO D → EO (List D)
  | .ok d δ => (match f d with | some ds => .ok ds δ | none => .st)
  | .ex c n d δ => .ex c n d δ
  | .st => .st
def rg1 : D → Option (List D)
  | .int j => if -(2 ^ 62) ≤ j ∧ j < 2 ^ 62 then some (rngD 0 j) else none
  | _ => none
def rgL : D → Option D
  | .int j => if 0 ≤ j ∧ j ≤ 16777216 then some (.lst (rngD 0 j)) else none
  | _ => none
def zpK2 (x : D) : EO D → EO (List D)
  | .ok y δ => (match seqD x, seqD y with | some ds, some es => .ok (zipD ds es) δ | _, _ => .st)
  | .ex c n d δ => .ex c n d δ
  | .st => .st
def zpK (fb : DE) : EO D → EO (List D)
  | .ok x δ => zpK2 x (fb δ)
  | .ex c n d δ => .ex c n d δ
  | .st => .st
def compK (A : D → DEnv → Option DEnv) (t : DT) (el : DE) (vs : List Nat) : EO (List D) → EO D
  | .ok ds δ => compL A t el vs ds δ []
  | .ex c n d δ => .ex c n d δ
  | .st => .st
def sK (k : D → DEnv → SO) : EO D → SO
  | .ok d δ => k d δ
  | .ex c n d δ => .ex c n d δ
  | .st => .st
def ifS (f g : DS) : EO Bool → SO
  | .ok true δ => f δ
  | .ok false δ => g δ
  | .ex c n d δ => .ex c n d δ
  | .st => .st
def forK (A : D → DEnv → Option DEnv) (f : DS) : EO (List D) → SO
  | .ok ds δ => forL A f ds δ
  | .ex c n d δ => .ex c n d δ
  | .st => .st
def kNx (_ : D) (δ : DEnv) : SO := .nx δ
def kRt (d : D) (δ : DEnv) : SO := .rt d δ
def kRo (d : D) (δ : DEnv) : SO := .ro d δ
def kSet (i : Nat) (d : D) (δ : DEnv) : SO := oNx (setV i d δ)
def kSetO (i : Nat) (d : D) (δ : DEnv) : SO := oNx (setO i d δ)
def kUnp (A : D → DEnv → Option DEnv) (d : D) (δ : DEnv) : SO := oNx (A d δ)
def kAug (i : Nat) (g : D → D → Option D) (x y : D) (δ : DEnv) : SO := match g x y with
  | some z => oNx (setV i z δ)
  | none => .st
def setVK (i : Nat) (d : D) (δ : DEnv) : Option Sl → Option DEnv
  | some (.rf _) => none
  | some _ => some (δ.set i (.val d))
  | none => none
def setOK (i : Nat) (d : D) (δ : DEnv) : Option Sl → Option DEnv
  | some (.rf _) => none
  | some _ => some (δ.set i (.own d))
  | none => none
def lkK : Option Sl → Option D
  | some (.val d) => some d
  | some (.own d) => some d
  | some (.rf d) => some d
  | _ => none
def ix3 (y : D) (δ : DEnv) : Option D → EO D
  | some d => oE (idxD d y) δ
  | none => .st
def ixK2 (j : Nat) : EO D → EO D
  | .ok y δ => ix3 y δ (look δ j)
  | .ex c n d δ => .ex c n d δ
  | .st => .st
def ixK (j : Nat) (fb : DE) (δ : DEnv) : Option D → EO D
  | some _ => ixK2 j (fb δ)
  | none => .st
section
variable (f g : DS) (δ : DEnv) (t u : DT) (fa fb : DE) (G : D → D → Option D) (U : D → Option D) (fs : DA) (i j : Nat)
theorem a_seq : sSeq f g δ = (f δ).then g := rfl
theorem a_expr : sExpr fa δ = sK kNx (fa δ) := by unfold sExpr; cases fa δ <;> rfl
theorem a_ret : sRet fa δ = sK kRt (fa δ) := by unfold sRet; cases fa δ <;> rfl
theorem a_retO : sRetO fa δ = sK kRo (fa δ) := by unfold sRetO; cases fa δ <;> rfl
theorem a_set : sSet i fa δ = sK (kSet i) (fa δ) := by unfold sSet; cases fa δ <;> rfl
theorem a_setO : sSetO i fa δ = sK (kSetO i) (fa δ) := by unfold sSetO; cases fa δ <;> rfl
theorem a_if : sIf t f g δ = ifS f g (t δ) := by
  unfold sIf
  cases t δ with
  | ok b δ => cases b <;> rfl
  | ex c n d δ => rfl
  | st => rfl
theorem a_unp (A : D → DEnv → Option DEnv) : sUnp A fa δ = sK (kUnp A) (fa δ) := by unfold sUnp; cases fa δ <;> rfl
theorem a_for (it : DI) (A : D → DEnv → Option DEnv) : sFor it A f δ = forK A f (it δ) := by unfold sFor; cases it δ <;> rfl
theorem a_nil : sNil δ = .nx δ := rfl
theorem a_retN : sRetN δ = .rt .non δ := rfl
theorem a_then_0 (f : DS) (δ : DEnv) : (SO.nx δ).then f = f δ := rfl
theorem a_then_1 (f : DS) (δ : DEnv) (d : D) : (SO.rt d δ).then f = .rt d δ := rfl
theorem a_then_2 (f : DS) (δ : DEnv) (d : D) : (SO.ro d δ).then f = .ro d δ := rfl
theorem a_then_3 (f : DS) (δ : DEnv) (c : Str) (n : List Str) (ds : List D) : (SO.ex c n ds δ).then f = .ex c n ds δ := rfl
theorem a_sK_0 (δ : DEnv) (k : D → DEnv → SO) (d : D) : sK k (.ok d δ) = k d δ := rfl
theorem a_sK_1 (δ : DEnv) (k : D → DEnv → SO) (c : Str) (n : List Str) (ds : List D) : sK k (.ex c n ds δ) = .ex c n ds δ := rfl
theorem a_ifS_0 (f : DS) (g : DS) (δ : DEnv) : ifS f g (.ok true δ) = f δ := rfl
theorem a_ifS_1 (f : DS) (g : DS) (δ : DEnv) : ifS f g (.ok false δ) = g δ := rfl
theorem a_ifS_2 (f : DS) (g : DS) (δ : DEnv) (c : Str) (n : List Str) (ds : List D) : ifS f g (.ex c n ds δ) = .ex c n ds δ := rfl
theorem a_k_0 (δ : DEnv) (d : D) : kNx d δ = .nx δ := rfl
theorem a_k_1 (δ : DEnv) (d : D) : kRt d δ = .rt d δ := rfl
theorem a_k_2 (δ : DEnv) (d : D) : kRo d δ = .ro d δ := rfl
theorem a_k_3 (δ : DEnv) (i : Nat) (d : D) : kSet i d δ = oNx (setV i d δ) := rfl
theorem a_k_4 (δ : DEnv) (i : Nat) (d : D) : kSetO i d δ = oNx (setO i d δ) := rfl
theorem a_k_5 (δ : DEnv) (d : D) (A : D → DEnv → Option DEnv) : kUnp A d δ = oNx (A d δ) := rfl
theorem a_k_6 (δ : DEnv) : oNx (some δ) = .nx δ := rfl
theorem a_setV (d : D) : setV i d δ = setVK i d δ δ[i]? := by
  unfold setV setVK
  cases δ[i]? with
  | none => rfl
  | some s => cases s <;> rfl
theorem a_setOd (d : D) : setO i d δ = setOK i d δ δ[i]? := by
  unfold setO setOK
  cases δ[i]? with
  | none => rfl
  | some s => cases s <;> rfl
theorem a_setVK_0 (δ : DEnv) (i : Nat) (d : D) : setVK i d δ (some .un) = some (δ.set i (.val d)) := rfl
theorem a_setVK_1 (δ : DEnv) (i : Nat) (d : D) (e : D) : setVK i d δ (some (.val e)) = some (δ.set i (.val d)) := rfl
theorem a_setVK_2 (δ : DEnv) (i : Nat) (d : D) (e : D) : setVK i d δ (some (.own e)) = some (δ.set i (.val d)) := rfl
theorem a_setVK_3 (δ : DEnv) (i : Nat) (d : D) : setOK i d δ (some .un) = some (δ.set i (.own d)) := rfl
theorem a_setVK_4 (δ : DEnv) (i : Nat) (d : D) (e : D) : setOK i d δ (some (.val e)) = some (δ.set i (.own d)) := rfl
theorem a_setVK_5 (δ : DEnv) (i : Nat) (d : D) (e : D) : setOK i d δ (some (.own e)) = some (δ.set i (.own d)) := rfl
theorem a_c (d : D) : dC d δ = .ok d δ := rfl
theorem a_var : dVar i δ = varK δ[i]? i δ := by
  unfold dVar varK
  cases δ[i]? with
  | none => rfl
  | some s => cases s <;> rfl
theorem a_varK_0 (δ : DEnv) (i : Nat) (d : D) : varK (some (.val d)) i δ = .ok d δ := rfl
theorem a_varK_1 (δ : DEnv) (i : Nat) (d : D) : varK (some (.own d)) i δ = .ok d (δ.set i (.val d)) := rfl
theorem a_bin : dBin G fa fb δ = binK G fb (fa δ) := by
  unfold dBin
  cases fa δ with
  | ok x δ1 =>
    show (fb δ1).bind _ = binK2 G x (fb δ1)
    cases fb δ1 with
    | ok y δ2 => show (match G x y with | some z => EO.ok z δ2 | none => .st) = oE (G x y) δ2; cases G x y <;> rfl
    | ex c n d δ => rfl
    | st => rfl
  | ex c n d δ => rfl
  | st => rfl
theorem a_binK_0 (δ : DEnv) (fb : DE) (G : D → D → Option D) (x : D) : binK G fb (.ok x δ) = binK2 G x (fb δ) := rfl
theorem a_binK_1 (δ : DEnv) (G : D → D → Option D) (x : D) (y : D) : binK2 G x (.ok y δ) = oE (G x y) δ := rfl
theorem a_binK_2 (δ : DEnv) (fb : DE) (G : D → D → Option D) (c : Str) (n : List Str) (ds : List D) : binK G fb (.ex c n ds δ) = .ex c n ds δ := rfl
theorem a_binK_3 (δ : DEnv) (G : D → D → Option D) (x : D) (c : Str) (n : List Str) (ds : List D) : binK2 G x (.ex c n ds δ) = .ex c n ds δ := rfl
theorem a_oE_0 (δ : DEnv) (x : D) : oE (some x) δ = .ok x δ := rfl
theorem a_oE_1 (δ : DEnv) (b : Bool) : oB (some b) δ = .ok b δ := rfl
theorem a_un : dUn U fa δ = unK U (fa δ) := by
  unfold dUn
  cases fa δ with
  | ok x δ1 => show (match U x with | some z => EO.ok z δ1 | none => .st) = oE (U x) δ1; cases U x <;> rfl
  | ex c n d δ => rfl
  | st => rfl
theorem a_unK_0 (δ : DEnv) (U : D → Option D) (x : D) : unK U (.ok x δ) = oE (U x) δ := rfl
theorem a_unK_1 (δ : DEnv) (x : D) (B : D → Option Bool) : unB B (.ok x δ) = oB (B x) δ := rfl
theorem a_unK_2 (δ : DEnv) (U : D → Option D) (c : Str) (n : List Str) (ds : List D) : unK U (.ex c n ds δ) = .ex c n ds δ := rfl
theorem a_unK_3 (δ : DEnv) (B : D → Option Bool) (c : Str) (n : List Str) (ds : List D) : unB B (.ex c n ds δ) = .ex c n ds δ := rfl
theorem a_test : dTest fa δ = unB asB (fa δ) := by
  unfold dTest
  cases fa δ with
  | ok x δ1 => cases x <;> rfl
  | ex c n d δ => rfl
  | st => rfl
theorem a_tru : dTru fa δ = unB dTruth (fa δ) := by
  unfold dTru
  cases fa δ with
  | ok x δ1 => show (match dTruth x with | some b => EO.ok b δ1 | none => .st) = oB (dTruth x) δ1; cases dTruth x <;> rfl
  | ex c n d δ => rfl
  | st => rfl
theorem a_not : dNot fa δ = unK (fun x => (dTruth x).map fun b => .bl (!b)) (fa δ) := by
  unfold dNot
  cases fa δ with
  | ok x δ1 => show (match dTruth x with | some b => EO.ok (D.bl (!b)) δ1 | none => .st) = oE ((dTruth x).map fun b => .bl (!b)) δ1; cases dTruth x <;> rfl
  | ex c n d δ => rfl
  | st => rfl
theorem a_asB_0 (b : Bool) : asB (.bl b) = some b := rfl
theorem a_asB_1 (b : Bool) : dTruth (.bl b) = some b := rfl
theorem a_asB_2  : dTruth .non = some false := rfl
theorem a_asB_3 (k : Int) : dTruth (.int k) = some (k != 0) := rfl
theorem a_lst_0 (xs : List D) : dTruth (.lst xs) = some (!xs.isEmpty) := rfl
theorem a_lst_1 (xs : List D) : dTruth (.tup xs) = some (!xs.isEmpty) := rfl
theorem a_and : dAnd fa fb δ = and1 fb (fa δ) := by
  unfold dAnd
  cases fa δ with
  | ok x δ1 => show (match dTruth x with | some true => fb δ1 | some false => EO.ok x δ1 | none => .st) = andK fb x δ1 (dTruth x); cases dTruth x with
    | none => rfl
    | some b => cases b <;> rfl
  | ex c n d δ => rfl
  | st => rfl
theorem a_or : dOr fa fb δ = or1 fb (fa δ) := by
  unfold dOr
  cases fa δ with
  | ok x δ1 => show (match dTruth x with | some true => EO.ok x δ1 | some false => fb δ1 | none => .st) = orK fb x δ1 (dTruth x); cases dTruth x with
    | none => rfl
    | some b => cases b <;> rfl
  | ex c n d δ => rfl
  | st => rfl
theorem a_andK_0 (δ : DEnv) (fb : DE) (x : D) : and1 fb (.ok x δ) = andK fb x δ (dTruth x) := rfl
theorem a_andK_1 (δ : DEnv) (fb : DE) (x : D) : or1 fb (.ok x δ) = orK fb x δ (dTruth x) := rfl
theorem a_andK_2 (δ : DEnv) (fb : DE) (x : D) : andK fb x δ (some true) = fb δ := rfl
theorem a_andK_3 (δ : DEnv) (fb : DE) (x : D) : andK fb x δ (some false) = .ok x δ := rfl
theorem a_andK_4 (δ : DEnv) (fb : DE) (x : D) : orK fb x δ (some true) = .ok x δ := rfl
theorem a_andK_5 (δ : DEnv) (fb : DE) (x : D) : orK fb x δ (some false) = fb δ := rfl
theorem a_dIf : dIf t fa fb δ = ifK fa fb (t δ) := by
  unfold dIf
  cases t δ with
  | ok b δ => cases b <;> rfl
  | ex c n d δ => rfl
  | st => rfl
theorem a_tand : tAndD t u δ = ifK u (okB false) (t δ) := by
  unfold tAndD
  cases t δ with
  | ok b δ => cases b <;> rfl
  | ex c n d δ => rfl
  | st => rfl
theorem a_tor : tOrD t u δ = ifK (okB true) u (t δ) := by
  unfold tOrD
  cases t δ with
  | ok b δ => cases b <;> rfl
  | ex c n d δ => rfl
  | st => rfl
theorem a_tnot : tNotD t δ = notK (t δ) := by unfold tNotD; cases t δ <;> rfl
theorem a_ifK_0 {α : Type} (δ : DEnv) (p : DEnv → EO α) (q : DEnv → EO α) : ifK p q (.ok true δ) = p δ := rfl
theorem a_ifK_1 {α : Type} (δ : DEnv) (p : DEnv → EO α) (q : DEnv → EO α) : ifK p q (.ok false δ) = q δ := rfl
theorem a_ifK_2 (δ : DEnv) (b : Bool) : okB b δ = .ok b δ := rfl
theorem a_ifK_3 (δ : DEnv) (b : Bool) : notK (.ok b δ) = .ok (!b) δ := rfl
theorem a_ifK_4 (δ : DEnv) : dYes δ = .ok true δ := rfl
theorem a_cons : dCons fa fs δ = consK fs (fa δ) := by
  unfold dCons
  cases fa δ with
  | ok x δ1 => show (fs δ1).bind _ = consK2 x (fs δ1); cases fs δ1 <;> rfl
  | ex c n d δ => rfl
  | st => rfl
theorem a_consK_0 (δ : DEnv) : dNil δ = .ok [] δ := rfl
theorem a_consK_1 (δ : DEnv) (fs : DA) (x : D) : consK fs (.ok x δ) = consK2 x (fs δ) := rfl
theorem a_consK_2 (δ : DEnv) (x : D) (as : List AV) : consK2 x (.ok as δ) = .ok (.v x :: as) δ := rfl
theorem a_consK_3 (δ : DEnv) (fs : DA) (c : Str) (n : List Str) (ds : List D) : consK fs (.ex c n ds δ) = .ex c n ds δ := rfl
theorem a_consK_4 (δ : DEnv) (x : D) (c : Str) (n : List Str) (ds : List D) : consK2 x (.ex c n ds δ) = .ex c n ds δ := rfl
theorem a_refA : dRefA j fs δ = refA1 j fs δ δ[j]? := by
  unfold dRefA refA1
  cases δ[j]? with
  | none => rfl
  | some s =>
    cases s <;> first | rfl | (show (fs δ).bind _ = refK j (fs δ); cases fs δ <;> rfl)
theorem a_refK_0 (δ : DEnv) (fs : DA) (j : Nat) (d : D) : refA1 j fs δ (some (.own d)) = refK j (fs δ) := rfl
theorem a_refK_1 (δ : DEnv) (fs : DA) (j : Nat) (d : D) : refA1 j fs δ (some (.rf d)) = refK j (fs δ) := rfl
theorem a_refK_2 (δ : DEnv) (j : Nat) (as : List AV) : refK j (.ok as δ) = .ok (.r j :: as) δ := rfl
theorem vals_eq (g : List D → Option D) : dVals fs (fun ds δ => match g ds with | some z => .ok z δ | none => .st) δ = valsK g (fs δ) := by
  unfold dVals
  cases fs δ with
  | ok as δ1 =>
    show (match avs as with | some ds => _ | none => _) = (match avs as with | some ds => oE (g ds) δ1 | none => .st)
    cases avs as with
    | none => rfl
    | some ds => show (match g ds with | some z => EO.ok z δ1 | none => .st) = oE (g ds) δ1; cases g ds <;> rfl
  | ex c n d δ => rfl
  | st => rfl
theorem a_cb (g : List D → Option D) : dCallB g fs δ = valsK g (fs δ) := vals_eq δ fs g
theorem a_tup : dTup fs δ = valsK gTupD (fs δ) := by
  rw [← vals_eq]; unfold dTup
  congr 1
  funext ds δ
  unfold gTupD
  by_cases h : ds.length ≤ sizeLine
  · rw [if_pos h, if_pos h]
  · rw [if_neg h, if_neg h]
theorem a_dLst : dLst fs δ = valsK gLstD (fs δ) := by
  rw [← vals_eq]; unfold dLst
  congr 1
  funext ds δ
  unfold gLstD
  by_cases h : ds.length ≤ sizeLine
  · rw [if_pos h, if_pos h]
  · rw [if_neg h, if_neg h]
theorem a_vals0 (g : List D → Option D) : valsK g (.ok [] δ) = oE (g []) δ := rfl
theorem a_vals1 (g : List D → Option D) (a : D) : valsK g (.ok [.v a] δ) = oE (g [a]) δ := rfl
theorem a_vals2 (g : List D → Option D) (a b : D) : valsK g (.ok [.v a, .v b] δ) = oE (g [a, b]) δ := rfl
theorem a_vals3 (g : List D → Option D) (a b c : D) : valsK g (.ok [.v a, .v b, .v c] δ) = oE (g [a, b, c]) δ := rfl
theorem a_vals4 (g : List D → Option D) (a b c d : D) : valsK g (.ok [.v a, .v b, .v c, .v d] δ) = oE (g [a, b, c, d]) δ := rfl
theorem call_eq (ks : List Bool) (dvs : List D) (fn : List D → FO) : dCall ks dvs fn fs δ = callK endK ks dvs fn (fs δ) := by
  unfold dCall
  cases fs δ with
  | ok as δ1 =>
    show (if _ then _ else _) = (if _ then _ else _)
    by_cases h : avk as ++ dvs.map (fun _ => false) = ks ∧ nodupB (avj as) = true
    · rw [if_pos h, if_pos h]
      cases avd δ1 as with
      | none => rfl
      | some ds => show (match fn (ds ++ dvs) with | .ret d rs => _ | .new d rs => _ | .ex c ns es rs => _ | .st => _) = endK (avj as) δ1 (fn (ds ++ dvs)); cases fn (ds ++ dvs) <;> rfl
    · rw [if_neg h, if_neg h]
  | ex c n d δ => rfl
  | st => rfl
theorem callO_eq (ks : List Bool) (dvs : List D) (fn : List D → FO) : dCallO ks dvs fn fs δ = callK endO ks dvs fn (fs δ) := by
  unfold dCallO
  cases fs δ with
  | ok as δ1 =>
    show (if _ then _ else _) = (if _ then _ else _)
    by_cases h : avk as ++ dvs.map (fun _ => false) = ks ∧ nodupB (avj as) = true
    · rw [if_pos h, if_pos h]
      cases avd δ1 as with
      | none => rfl
      | some ds => show (match fn (ds ++ dvs) with | .ret d rs => _ | .new d rs => _ | .ex c ns es rs => _ | .st => _) = endO (avj as) δ1 (fn (ds ++ dvs)); cases fn (ds ++ dvs) <;> rfl
    · rw [if_neg h, if_neg h]
  | ex c n d δ => rfl
  | st => rfl
section
variable (e : List Nat → DEnv → FO → EO D) (dvs : List D) (fn : List D → FO) (a b c d : D)
theorem a_call1 : callK e [false] [] fn (.ok [.v a] δ) = e [] δ (fn [a]) := rfl
theorem a_call2 : callK e [false, false] [] fn (.ok [.v a, .v b] δ) = e [] δ (fn [a, b]) := rfl
theorem a_call3 : callK e [false, false, false] [] fn (.ok [.v a, .v b, .v c] δ) = e [] δ (fn [a, b, c]) := rfl
theorem a_call4 : callK e [false, false, false, false] [] fn (.ok [.v a, .v b, .v c, .v d] δ) = e [] δ (fn [a, b, c, d]) := rfl
def rfK (e : List Nat → DEnv → FO → EO D) (fn : List D → FO) (j : Nat) (r : List D) (δ : DEnv) : Option D → EO D
  | some x => e [j] δ (fn (x :: r))
  | none => .st
theorem rf_eq (as : List AV) (ks : List Bool) (r : List D) (h : avk as = ks) (h2 : avd δ as = some r) (h3 : avj as = []) : callK e (true :: ks) [] fn (.ok (.r j :: as) δ) = rfK e fn j r δ (δ[j]?.bind Sl.cont) := by
  show (if (true :: avk as) ++ [] = true :: ks ∧ nodupB (j :: avj as) = true then goK e [] fn (.r j :: as) δ (avd δ (.r j :: as)) else .st) = _
  rw [h3, h, List.append_nil, if_pos ⟨rfl, rfl⟩]
  show goK e [] fn (.r j :: as) δ ((avd δ as).bind fun ds => (δ[j]?.bind Sl.cont).map fun d => d :: ds) = _
  rw [h2]
  show goK e [] fn (.r j :: as) δ ((δ[j]?.bind Sl.cont).map fun d => d :: r) = _
  cases δ[j]?.bind Sl.cont with
  | none => rfl
  | some x =>
    show e (j :: avj as) δ (fn (x :: r ++ [])) = e [j] δ (fn (x :: r))
    rw [h3, List.append_nil]
theorem a_rf0 : callK e [true] [] fn (.ok [.r j] δ) = rfK e fn j [] δ (δ[j]?.bind Sl.cont) := rf_eq δ j e fn [] [] [] rfl rfl rfl
theorem a_rf1 : callK e [true, false] [] fn (.ok [.r j, .v a] δ) = rfK e fn j [a] δ (δ[j]?.bind Sl.cont) := rf_eq δ j e fn [.v a] [false] [a] rfl rfl rfl
theorem a_rf2 : callK e [true, false, false] [] fn (.ok [.r j, .v a, .v b] δ) = rfK e fn j [a, b] δ (δ[j]?.bind Sl.cont) := rf_eq δ j e fn [.v a, .v b] [false, false] [a, b] rfl rfl rfl
theorem a_rfK_0 (δ : DEnv) (j : Nat) (x : D) (r : List D) (e : List Nat → DEnv → FO → EO D) (fn : List D → FO) : rfK e fn j r δ (some x) = e [j] δ (fn (x :: r)) := rfl
theorem a_rfK_1 (x : D) : (Option.bind (some (Sl.own x)) Sl.cont) = some x := rfl
theorem a_rfK_2 (x : D) : (Option.bind (some (Sl.rf x)) Sl.cont) = some x := rfl
end
def put1 (j : Nat) (d y : D) (δ : DEnv) : Option Sl → EO D
  | some (.own _) => .ok d (δ.set j (.own y))
  | some (.rf _) => .ok d (δ.set j (.rf y))
  | some s => .ok d (δ.set j s)
  | none => .st
theorem a_end0_0 (δ : DEnv) (d : D) : endK [] δ (.ret d []) = .ok d δ := rfl
theorem a_end0_1 (δ : DEnv) (d : D) : endK [] δ (.new d []) = .ok d δ := rfl
theorem a_end0_2 (δ : DEnv) (d : D) : endO [] δ (.new d []) = .ok d δ := rfl
theorem a_end0_3 (δ : DEnv) (c : Str) (n : List Str) (ds : List D) : endK [] δ (.ex c n ds []) = .ex c n ds δ := rfl
theorem a_end1 (d y : D) : endK [j] δ (.ret d [y]) = put1 j d y δ δ[j]? := by
  show (match (match δ[j]? with | some s => some (δ.set j (s.put y)) | none => none) with | some δ2 => EO.ok d δ2 | none => .st) = put1 j d y δ δ[j]?
  unfold put1
  cases δ[j]? with
  | none => rfl
  | some s => cases s <;> rfl
theorem a_put1_0 (δ : DEnv) (j : Nat) (d : D) (x : D) (y : D) : put1 j d y δ (some (.own x)) = .ok d (δ.set j (.own y)) := rfl
theorem a_put1_1 (δ : DEnv) (j : Nat) (d : D) (x : D) (y : D) : put1 j d y δ (some (.rf x)) = .ok d (δ.set j (.rf y)) := rfl
theorem a_look : look δ j = lkK δ[j]? := by
  unfold look lkK
  cases δ[j]? with
  | none => rfl
  | some s => cases s <;> rfl
theorem a_lkK_0 (d : D) : lkK (some (.val d)) = some d := rfl
theorem a_lkK_1 (d : D) : lkK (some (.own d)) = some d := rfl
theorem a_lkK_2 (d : D) : lkK (some (.rf d)) = some d := rfl
theorem a_ixV : dIxV j fb δ = ixK j fb δ (look δ j) := by
  unfold dIxV ixK
  cases look δ j with
  | none => rfl
  | some d =>
    show (fb δ).bind _ = ixK2 j (fb δ)
    cases fb δ with
    | ok y δ1 =>
      show (match (look δ1 j).bind fun d => idxD d y with | some z => EO.ok z δ1 | none => .st) = ix3 y δ1 (look δ1 j)
      cases look δ1 j with
      | none => rfl
      | some d => show (match idxD d y with | some z => EO.ok z δ1 | none => .st) = oE (idxD d y) δ1; cases idxD d y <;> rfl
    | ex c n d δ => rfl
    | st => rfl
theorem a_ixK_0 (δ : DEnv) (fb : DE) (j : Nat) (d : D) : ixK j fb δ (some d) = ixK2 j (fb δ) := rfl
theorem a_ixK_1 (δ : DEnv) (j : Nat) (y : D) : ixK2 j (.ok y δ) = ix3 y δ (look δ j) := rfl
theorem a_ixK_2 (δ : DEnv) (d : D) (y : D) : ix3 y δ (some d) = oE (idxD d y) δ := rfl
theorem a_lenV : dLenV j δ = oE ((look δ j).bind fun d => (lenD d).map fun n => D.int (n : Nat)) δ := by
  unfold dLenV
  cases look δ j with
  | none => rfl
  | some d => show (match lenD d with | some n => EO.ok (D.int (n : Nat)) δ | none => .st) = oE ((lenD d).map fun n => D.int (n : Nat)) δ; cases lenD d <;> rfl
theorem a_truV : dTruV j δ = oB ((look δ j).bind dTruth) δ := by
  unfold dTruV
  cases (look δ j).bind dTruth <;> rfl
theorem a_len_0 (ds : List D) : lenD (.lst ds) = some ds.length := rfl
theorem a_len_1 (ds : List D) : lenD (.tup ds) = some ds.length := rfl
theorem a_len_2 (ns : List Int) : lenD (.scr ns) = some ns.length := rfl
theorem a_len_3 (ds : List D) : gLen [.lst ds] = some (.int (ds.length : Nat)) := rfl
theorem a_len_4 (ds : List D) : gLen [.tup ds] = some (.int (ds.length : Nat)) := rfl
theorem a_it : dIt fa δ = itK1 dItems (fa δ) := by unfold dIt; cases fa δ <;> rfl
theorem a_rg1 : dRg1 fa δ = itK1 rg1 (fa δ) := by
  unfold dRg1
  cases fa δ with
  | ok x δ1 =>
    cases x with
    | int j =>
      show (if -(2 ^ 62) ≤ j ∧ j < 2 ^ 62 then EO.ok (rngD 0 j) δ1 else .st) = (match (if -(2 ^ 62) ≤ j ∧ j < 2 ^ 62 then some (rngD 0 j) else none) with | some ds => .ok ds δ1 | none => .st)
      by_cases h : -(2 ^ 62) ≤ j ∧ j < 2 ^ 62
      · rw [if_pos h, if_pos h]
      · rw [if_neg h, if_neg h]
    | _ => rfl
  | ex c n d δ => rfl
  | st => rfl
theorem a_rgL : dRgL fa δ = unK rgL (fa δ) := by
  unfold dRgL
  cases fa δ with
  | ok x δ1 =>
    cases x with
    | int j =>
      show (if 0 ≤ j ∧ j ≤ 16777216 then EO.ok (.lst (rngD 0 j)) δ1 else .st) = oE (if 0 ≤ j ∧ j ≤ 16777216 then some (.lst (rngD 0 j)) else none) δ1
      by_cases h : 0 ≤ j ∧ j ≤ 16777216
      · rw [if_pos h, if_pos h]; rfl
      · rw [if_neg h, if_neg h]; rfl
    | _ => rfl
  | ex c n d δ => rfl
  | st => rfl
theorem a_en : dEn fa δ = itK1 (fun d => (seqD d).map (enumD 0)) (fa δ) := by
  unfold dEn
  cases fa δ with
  | ok x δ1 => show (match seqD x with | some ds => EO.ok (enumD 0 ds) δ1 | none => .st) = (match (seqD x).map (enumD 0) with | some ds => .ok ds δ1 | none => .st); cases seqD x <;> rfl
  | ex c n d δ => rfl
  | st => rfl
theorem a_zp : dZp fa fb δ = zpK fb (fa δ) := by
  unfold dZp
  cases fa δ with
  | ok x δ1 =>
    show (fb δ1).bind _ = zpK2 x (fb δ1)
    cases fb δ1 <;> rfl
  | ex c n d δ => rfl
  | st => rfl
theorem a_itK_0 (δ : DEnv) (ds : List D) : itK1 dItems (.ok (.lst ds) δ) = .ok ds δ := rfl
theorem a_itK_1 (δ : DEnv) (ds : List D) : itK1 dItems (.ok (.tup ds) δ) = .ok ds δ := rfl
theorem a_itK_2 (δ : DEnv) (ns : List Int) : itK1 dItems (.ok (.scr ns) δ) = .ok (ns.map D.int) δ := rfl
theorem a_itE_0 (δ : DEnv) (ds : List D) : itK1 (fun d => (seqD d).map (enumD 0)) (.ok (.lst ds) δ) = .ok (enumD 0 ds) δ := rfl
theorem a_itE_1 (δ : DEnv) (ds : List D) : itK1 (fun d => (seqD d).map (enumD 0)) (.ok (.tup ds) δ) = .ok (enumD 0 ds) δ := rfl
theorem a_itR (n : Int) (h : -(2 ^ 62) ≤ n ∧ n < 2 ^ 62) : itK1 rg1 (.ok (.int n) δ) = .ok (rngD 0 n) δ := by
  show (match (if -(2 ^ 62) ≤ n ∧ n < 2 ^ 62 then some (rngD 0 n) else none) with | some ds => EO.ok ds δ | none => .st) = _
  rw [if_pos h]
theorem a_comp (it : DI) (A : D → DEnv → Option DEnv) (vs : List Nat) : dComp it A t fa vs δ = compK A t fa vs (it δ) := by unfold dComp; cases it δ <;> rfl
theorem a_compK_0 (δ : DEnv) (t : DT) (fa : DE) (A : D → DEnv → Option DEnv) (vs : List Nat) (ds : List D) : compK A t fa vs (.ok ds δ) = compL A t fa vs ds δ [] := rfl
theorem a_compK_1 (f : DS) (δ : DEnv) (A : D → DEnv → Option DEnv) (ds : List D) : forK A f (.ok ds δ) = forL A f ds δ := rfl
theorem a_isi (Ts : List String) : dIsi Ts fa δ = unK (fun d => (tyD d).map fun t => .bl (Ts.any (subT t))) (fa δ) := by
  unfold dIsi
  cases fa δ with
  | ok x δ1 => show (match tyD x with | some t => EO.ok (.bl (Ts.any (subT t))) δ1 | none => .st) = oE ((tyD x).map fun t => .bl (Ts.any (subT t))) δ1; cases tyD x <;> rfl
  | ex c n d δ => rfl
  | st => rfl
theorem a_gI_0 (C : Int → Int → Bool) (h : Int → Int → Int) (k : Int) (l : Int) : gI C h (.int k) (.int l) = (if C k l = true then some (.int (h k l)) else none) := rfl
theorem a_gI_1 (k : Int) (l : Int) (p : Int → Int → Bool) : gB p (.int k) (.int l) = some (.bl (p k l)) := rfl
theorem a_gI_2 (k : Int) (l : Int) : gAdd (.int k) (.int l) = some (.int (k + l)) := rfl
end
end DL

set_option maxRecDepth 100000
set_option maxHeartbeats 4000000
/-! loops, stores and comprehensions, reckoned from within -/
namespace DL
open PySem PySem.Spec PyProof.Rows L2
/-! ### for -/
def fl2 (A : D → DEnv → Option DEnv) (f : DS) (ds : List D) : SO → SO
  | .nx δ2 => forL A f ds δ2
  | .ct δ2 => forL A f ds δ2
  | .bk δ2 => .nx δ2
  | .rt x δ2 => .rt x δ2
  | .ro x δ2 => .ro x δ2
  | .ex c n es δ2 => .ex c n es δ2
  | .st => .st
def fl1 (A : D → DEnv → Option DEnv) (f : DS) (ds : List D) : Option DEnv → SO
  | some δ1 => fl2 A f ds (f δ1)
  | none => .st
section
variable (A : D → DEnv → Option DEnv) (f : DS) (d x : D) (ds es : List D) (δ : DEnv) (c : Str) (n : List Str)
theorem f_nil : forL A f [] δ = .nx δ := rfl
theorem f_cons : forL A f (d :: ds) δ = fl1 A f ds (A d δ) := by
  show (match A d δ with | none => SO.st | some δ1 => _) = _
  cases A d δ with
  | none => rfl
  | some δ1 => show (match f δ1 with | .nx δ2 => _ | .ct δ2 => _ | .bk δ2 => _ | .rt x δ2 => _ | .ro x δ2 => _ | .ex c n es δ2 => _ | .st => _) = fl2 A f ds (f δ1); cases f δ1 <;> rfl
theorem f_some : fl1 A f ds (some δ) = fl2 A f ds (f δ) := rfl
theorem f_nx : fl2 A f ds (.nx δ) = forL A f ds δ := rfl
theorem f_ct : fl2 A f ds (.ct δ) = forL A f ds δ := rfl
theorem f_bk : fl2 A f ds (.bk δ) = .nx δ := rfl
theorem f_rt : fl2 A f ds (.rt x δ) = .rt x δ := rfl
theorem f_ex : fl2 A f ds (.ex c n es δ) = .ex c n es δ := rfl
end
theorem for_pos {A : D → DEnv → Option DEnv} {f : DS} (I : List D → DEnv → Prop) (all : List D) : ∀ (ds pre : List D) (δ : DEnv), all = pre ++ ds → I pre δ →
    (∀ (pre : List D) (d : D) (r : List D) (δ : DEnv), all = pre ++ d :: r → I pre δ → ∃ δ1 δ2, A d δ = some δ1 ∧ f δ1 = .nx δ2 ∧ I (pre ++ [d]) δ2) → ∃ δ', forL A f ds δ = .nx δ' ∧ I all δ'
  | [], pre, δ, e, h, _ => ⟨δ, rfl, by rw [e, List.append_nil]; exact h⟩
  | d :: ds, pre, δ, e, h, st => by
    obtain ⟨δ1, δ2, e1, e2, i2⟩ := st pre d ds δ e h
    obtain ⟨δ', e3, i3⟩ := for_pos I all ds (pre ++ [d]) δ2 (by rw [e, List.append_assoc]; rfl) i2 st
    exact ⟨δ', by rw [f_cons, e1]; show fl2 A f ds (f δ1) = _; rw [e2]; exact e3, i3⟩
/-! ### stores -/
def pvK (j : Nat) (d : D) (δ : DEnv) : Option Sl → Option DEnv
  | some (.own _) => some (δ.set j (.own d))
  | some (.rf _) => some (δ.set j (.rf d))
  | _ => none
def spK4 (j : Nat) (ds : List D) (v : D) (δ : DEnv) : Option Nat → SO
  | some m => oNx (putV j (.lst (ds.set m v)) δ)
  | none => .st
def spK3 (j : Nat) (v i : D) (δ : DEnv) : Option D → SO
  | some (.lst ds) => (match i with | .int n => spK4 j ds v δ (ixN ds.length n) | _ => .st)
  | _ => .st
def spK2 (j : Nat) (v : D) : EO D → SO
  | .ok i δ => spK3 j v i δ (look δ j)
  | .ex c n d δ => .ex c n d δ
  | .st => .st
def spK1 (j : Nat) (fi : DE) (v : D) (δ : DEnv) : Option D → SO
  | some _ => spK2 j v (fi δ)
  | none => .st
def spK (j : Nat) (fi : DE) : EO D → SO
  | .ok v δ => spK1 j fi v δ (look δ j)
  | .ex c n d δ => .ex c n d δ
  | .st => .st
section
variable (j : Nat) (fe fi : DE) (δ : DEnv) (v i d : D) (ds : List D) (n : Int) (m : Nat)
theorem a_putV : putV j d δ = pvK j d δ δ[j]? := by
  unfold putV pvK
  cases δ[j]? with
  | none => rfl
  | some s => cases s <;> rfl
theorem a_pv0 : pvK j d δ (some (.own v)) = some (δ.set j (.own d)) := rfl
theorem a_pv1 : pvK j d δ (some (.rf v)) = some (δ.set j (.rf d)) := rfl
theorem a_put : sPut j fe fi δ = spK j fi (fe δ) := by
  unfold sPut
  cases fe δ with
  | ok v δ1 =>
    show (match look δ1 j with | some _ => _ | none => _) = spK1 j fi v δ1 (look δ1 j)
    cases look δ1 j with
    | none => rfl
    | some d =>
      show (fi δ1).to _ = spK2 j v (fi δ1)
      cases fi δ1 with
      | ok i δ2 =>
        show (match look δ2 j, i with | some (.lst ds), .int n => _ | _, _ => _) = spK3 j v i δ2 (look δ2 j)
        cases look δ2 j with
        | none => rfl
        | some x =>
          cases x with
          | lst ds =>
            cases i with
            | int n => show (match ixN ds.length n with | some m => _ | none => _) = spK4 j ds v δ2 (ixN ds.length n); cases ixN ds.length n <;> rfl
            | _ => rfl
          | _ => rfl
      | ex c n d δ => rfl
      | st => rfl
  | ex c n d δ => rfl
  | st => rfl
theorem a_sp0 : spK j fi (.ok v δ) = spK1 j fi v δ (look δ j) := rfl
theorem a_sp1 : spK1 j fi v δ (some d) = spK2 j v (fi δ) := rfl
theorem a_sp2 : spK2 j v (.ok i δ) = spK3 j v i δ (look δ j) := rfl
theorem a_sp3 : spK3 j v (.int n) δ (some (.lst ds)) = spK4 j ds v δ (ixN ds.length n) := rfl
theorem a_sp4 : spK4 j ds v δ (some m) = oNx (putV j (.lst (ds.set m v)) δ) := rfl
end
def saK3 (j : Nat) (v : D) (δ : DEnv) : Option D → SO
  | some (.lst ds) => if ds.length < sizeLine then oNx (putV j (.lst (ds ++ [v])) δ) else .st
  | _ => .st
def saK2 (j : Nat) : EO D → SO
  | .ok v δ => saK3 j v δ (look δ j)
  | .ex c n d δ => .ex c n d δ
  | .st => .st
def saK1 (j : Nat) (fe : DE) (δ : DEnv) : Option D → SO
  | some (.lst _) => saK2 j (fe δ)
  | _ => .st
section
variable (j : Nat) (fe : DE) (δ : DEnv) (v : D) (ds : List D)
theorem a_app : sApp j fe δ = saK1 j fe δ (look δ j) := by
  unfold sApp
  cases look δ j with
  | none => rfl
  | some d =>
    cases d with
    | lst es =>
      show (fe δ).to _ = saK2 j (fe δ)
      cases fe δ with
      | ok v δ1 =>
        show (match look δ1 j with | some (.lst ds) => _ | _ => _) = saK3 j v δ1 (look δ1 j)
        cases look δ1 j with
        | none => rfl
        | some x => cases x <;> rfl
      | ex c n d δ => rfl
      | st => rfl
    | _ => rfl
theorem a_sa1 : saK1 j fe δ (some (.lst ds)) = saK2 j (fe δ) := rfl
theorem a_sa2 : saK2 j (.ok v δ) = saK3 j v δ (look δ j) := rfl
theorem a_sa3 (h : ds.length < sizeLine) : saK3 j v δ (some (.lst ds)) = oNx (putV j (.lst (ds ++ [v])) δ) := if_pos h
end
def auK (i : Nat) (g : D → D → Option D) (fe : DE) (δ : DEnv) : Option Sl → SO
  | some (.val x) => sK (kAug i g x) (fe δ)
  | _ => .st
theorem a_aug (i : Nat) (g : D → D → Option D) (fe : DE) (δ : DEnv) : sAug i g fe δ = auK i g fe δ δ[i]? := by
  unfold sAug auK
  cases δ[i]? with
  | none => rfl
  | some s =>
    cases s with
    | val x => show (fe δ).to _ = sK (kAug i g x) (fe δ); cases fe δ <;> rfl
    | _ => rfl
theorem a_au1 (i : Nat) (g : D → D → Option D) (fe : DE) (δ : DEnv) (x : D) : auK i g fe δ (some (.val x)) = sK (kAug i g x) (fe δ) := rfl
def au2 (i : Nat) (δ : DEnv) : Option D → SO
  | some z => oNx (setV i z δ)
  | none => .st
theorem a_au2 (i : Nat) (g : D → D → Option D) (x y : D) (δ : DEnv) : kAug i g x y δ = au2 i δ (g x y) := by unfold kAug au2; cases g x y <;> rfl
theorem a_au3 (i : Nat) (z : D) (δ : DEnv) : au2 i δ (some z) = oNx (setV i z δ) := rfl
/-! ### comprehensions -/
inductive All2 {α β : Type} (R : α → β → Prop) : List α → List β → Prop
  | nil : All2 R [] []
  | cons {a : α} {b : β} {as : List α} {bs : List β} : R a b → All2 R as bs → All2 R (a :: as) (b :: bs)
theorem All2.len {α β : Type} {R : α → β → Prop} : ∀ {as : List α} {bs : List β}, All2 R as bs → bs.length = as.length
  | _, _, .nil => rfl
  | _, _, .cons _ t => congrArg (· + 1) t.len
section
variable (A : D → DEnv → Option DEnv) (t : DT) (el : DE) (vs : List Nat)
theorem c_turn {d : D} {ds : List D} {δ δ1 δ2 δ3 : DEnv} {acc : List D} {x : D} (hv : vsFree vs δ = true) (h1 : A d (blkEnv vs δ) = some δ1) (h2 : t δ1 = .ok true δ2) (h3 : el δ2 = .ok x δ3) (hl : acc.length < sizeLine) :
    compL A t el vs (d :: ds) δ acc = compL A t el vs ds (backEnv δ δ3) (acc ++ [x]) := by
  show (if vsFree vs δ = true then _ else _) = _
  rw [if_pos hv, h1]
  show (match t δ1 with | .ok false δ2 => _ | .ok true δ2 => _ | _ => _) = _
  rw [h2]
  show (match el δ2 with | .ok x δ3 => _ | _ => _) = _
  rw [h3]
  exact if_pos hl
theorem c_skip {d : D} {ds : List D} {δ δ1 δ2 : DEnv} {acc : List D} (hv : vsFree vs δ = true) (h1 : A d (blkEnv vs δ) = some δ1) (h2 : t δ1 = .ok false δ2) :
    compL A t el vs (d :: ds) δ acc = compL A t el vs ds (backEnv δ δ2) acc := by
  show (if vsFree vs δ = true then _ else _) = _
  rw [if_pos hv, h1]
  show (match t δ1 with | .ok false δ2 => _ | .ok true δ2 => _ | _ => _) = _
  rw [h2]
/-- nothing is changed outside -/
theorem comp_map {δ : DEnv} (p : D → Bool) (g : D → D) (hv : vsFree vs δ = true) : ∀ (ds acc : List D), acc.length + ds.length ≤ sizeLine →
    (∀ d ∈ ds, ∃ δ1 δ2, A d (blkEnv vs δ) = some δ1 ∧ t δ1 = .ok (p d) δ2 ∧ (p d = false → backEnv δ δ2 = δ) ∧ (p d = true → ∃ δ3, el δ2 = .ok (g d) δ3 ∧ backEnv δ δ3 = δ)) →
    compL A t el vs ds δ acc = .ok (.lst (acc ++ (ds.filter p).map g)) δ
  | [], acc, _, _ => by show EO.ok (D.lst acc) δ = _; simp
  | d :: ds, acc, hl, h => by
    obtain ⟨δ1, δ2, h1, h2, h3, h4⟩ := h d List.mem_cons_self
    have hl' : acc.length + (ds.length + 1) ≤ sizeLine := hl
    cases q : p d with
    | false =>
      rw [q] at h2
      rw [c_skip A t el vs hv h1 h2, h3 q, comp_map p g hv ds acc (by omega) fun d hd => h d (List.mem_cons_of_mem _ hd), List.filter_cons, q]
      rfl
    | true =>
      rw [q] at h2
      obtain ⟨δ3, h5, h6⟩ := h4 q
      rw [c_turn A t el vs hv h1 h2 h5 (by omega), h6, comp_map p g hv ds (acc ++ [g d]) (by rw [List.length_append]; show acc.length + 1 + ds.length ≤ _; omega) fun d hd => h d (List.mem_cons_of_mem _ hd), List.filter_cons, q]
      simp
end
theorem opn (ks : List Bool) (ds : List D) (n : Nat) (F : DS) (h : ds.length = ks.length) : defF ks n F ds = toFO ks (F (mkEnv ks ds n)) := if_pos h
theorem ct_rf (x : D) : (Sl.rf x).cont = some x := rfl
theorem ct_own (x : D) : (Sl.own x).cont = some x := rfl
theorem gEq_int (a b : Int) : gEq false (.int a) (.int b) = some (.bl (a == b)) := rfl
theorem gNe_int (a b : Int) : gEq true (.int a) (.int b) = some (.bl (!(a == b))) := rfl
end DL

set_option maxRecDepth 100000
set_option maxHeartbeats 1000000
namespace DL
open PySem PySem.Spec PyProof.Rows L2
end DL

set_option maxRecDepth 100000
set_option maxHeartbeats 1000000
namespace DL
open PySem PySem.Spec PyProof.Rows L2
section
variable {c : Cf} {X : Cx} {e : Expr} {fe : DE} {p ap pos : Pos} {a : Str} {j : Nat}
end
end DL

set_option maxRecDepth 100000
set_option maxHeartbeats 4000000
/-! a comprehension whose element may raise -/
namespace DL
open PySem PySem.Spec PyProof.Rows L2
open HandSPX (HeldZ TracedZ FlyingZ)
section
variable {M : Model} {A : Around} {E : Value → Shared → Prop} {s : Shared} {Z : Obj → Prop} {B : Heap} {v : Env} {out : List Env} {L J a : Addr}
theorem rawNe {i j : Addr} (h : i ≠ j) : (rawInt (i : Int) == rawInt (j : Int)) = false := by
  apply beq_eq_false_iff_ne.mpr
  intro e
  have e2 : ((i : Int)) = (j : Int) := by
    injection e
  exact h (by exact_mod_cast e2)
/-- noted by another's mark, now by this frame's -/
theorem markOn {Q : Unit → Shared → Prop} (st : HandSPX.Steady Z) (hA : A.frames = some (v :: out)) (hv : v.frame = some L) (ne : J ≠ L) (x : HeldZ B (v :: out) a Z J s.heap)
    (k : ∀ h2, HeldZ B (v :: out) a Z L h2 → s.heap.UpToSlots h2 → Q () { s with heap := h2 }) : wpAny M A (noteFrame (.ref a) v) Q E s := by
  obtain ⟨b1, b2, b3, o1, f1, R, o2, f2, e1, z1, d1, i1, nR, Ra, e2, d2, i3⟩ := x
  unfold noteFrame
  simp only [hv]
  refine wpAny_bind (wpAny_field e1 d1 i1 ?_)
  have c1 : (Value.ref R != Value.none) = true := by simp
  rw [if_pos c1]
  refine wpAny_bind (wpAny_field e2 d2 i3 ?_)
  have c2 : ¬ (rawInt (J : Int) == rawInt (L : Int)) = true := by rw [rawNe ne]; decide
  rw [if_neg c2]
  have l3 : 3 < f2.size := (Array.getElem?_eq_some_iff.mp i3).1
  refine wpAny_bind (wpAny_setField e2 d2 l3 ?_)
  have off : ∀ c, c ≠ R → (s.heap.update R (Obj.mapFields (·.setIfInBounds 3 Value.none))).get? c = s.heap.get? c := fun c hc => Heap.get?_update_other _ _ hc.symm
  have plain : ∀ c o, s.heap.get? c = some o → (∀ fs, o.data ≠ .fields fs) → c ≠ R := fun c o q n z => by
    rw [z, e2] at q
    cases q
    exact n f2 d2
  have fr2 : (s.heap.update R (Obj.mapFields (·.setIfInBounds 3 Value.none))).FunFrames B (v :: out) := b3.of_keeps fun c o q n => ⟨o, by rw [off c (plain c o q n)]; exact q, rfl⟩
  have st2 : B.StaysIn (s.heap.update R (Obj.mapFields (·.setIfInBounds 3 Value.none))) := fun c o q => by
    rw [off c fun z => by rw [z, nR] at q; cases q]
    exact b1 c o q
  have l1 : 1 < f1.size := (Array.getElem?_eq_some_iff.mp i1).1
  refine HandSPX.wpAny_entryZ st hA fr2 hv (by rw [off a Ra.symm]; exact e1) st2 b2 d1 l1 z1 fun h2 ⟨n1, n2, n3, n4⟩ => ?_
  refine k h2 ⟨n1, b2, n2, n3⟩ fun c o q n => n4 c o ?_ n
  rw [off c (plain c o q n)]
  exact q
/-- whatever it was: noted by this frame -/
theorem skyNote {Q : Unit → Shared → Prop} (st : HandSPX.Steady Z) (hA : A.frames = some (v :: out)) (hv : v.frame = some L) (x : Sky B (v :: out) a Z J s.heap)
    (k : ∀ h2, HeldZ B (v :: out) a Z L h2 → s.heap.UpToSlots h2 → Q () { s with heap := h2 }) : wpAny M A (noteFrame (.ref a) v) Q E s := by
  rcases x with ⟨x1, x2, x3, oe, fs, x4, x5, x6, x7⟩ | x | x
  · exact HandSPX.look_newZ st hA x3 hv x4 x1 x2 x6 x7 x5 k
  · exact HandSPX.looks_onZ st hA hv x k
  · by_cases e : J = L
    · subst e
      exact HandSPX.againZ hv x.2.2.2 (k s.heap x (.refl _))
    · exact markOn st hA hv e x k
theorem passUp {what : String} {l : List Env} {e : Env} (he : e.frame = some L) (x : HeldZ B l a Z L s.heap) (k : ∀ h2, HeldZ B l a Z L h2 → s.heap.UpToSlots h2 → E (.ref a) { s with heap := h2 }) :
    wpAny M A (PySem.passOn what (.ref a) e : Sem Value) (fun _ _ => False) E s := by
  have y := x
  obtain ⟨_, _, _, o1, f1, R, _, _, e1, _, d1, i1, _⟩ := y
  unfold PySem.passOn
  refine wpAny_bind (wpAny_field e1 d1 i1 ?_)
  have c1 : ¬ (Value.ref R == Value.none) = true := by simp
  rw [if_neg c1, he]
  refine wpAny_bind ?_
  exact HandSPX.setFlight_onZ x fun h2 y u => wpAny_throw (k h2 y u)
end
theorem framesTo {B B' h h' : Heap} : ∀ {l : List Env}, h.FunFrames B l → (∀ b, b ∈ frs l → ∀ o, h.get? b = some o → ∃ o', h'.get? b = some o' ∧ o'.data = o.data) → (∀ b, B.get? b = none → B'.get? b = none) → h'.FunFrames B' l
  | [], _, _, _ => trivial
  | e :: l, ⟨x1, ⟨L, o, x2, x3, x4, x5⟩, x6⟩, k, kb => by
    have hin : frs (e :: l) = L :: frs l := by show List.filterMap _ _ = _; rw [List.filterMap_cons, x2]; rfl
    obtain ⟨o', q, dd⟩ := k L (by rw [hin]; exact List.mem_cons_self) o x4
    exact ⟨x1, ⟨L, o', x2, kb L x3, q, fun fs => by rw [dd]; exact x5 fs⟩, framesTo x6 (fun b hb => k b (by rw [hin]; exact List.mem_cons_of_mem _ hb)) kb⟩
/-- behind the block: what is made, or what flies on -/
def outR (M : Model) (A : Around) (E : Value → Shared → Prop) (u : Option (Value → Sem Unit)) (Q : Value → Shared → Prop) (acc : Value) (ce : Env) : Result → Shared → Prop
  | .ok f => compPost M A E u Q acc ce.locals (.ok f)
  | .error x => fun t => ∃ m, t.heap.Ns ce.locals m ∧ ∀ h2, Heap.SameBut ce.locals t.heap h2 → wpAny M A (PySem.passOn "comprehension.variables-let-go" x ce : Sem Value) (fun _ _ => False) E { t with heap := h2 }
/-- an exception leaves the block for the air of X -/
theorem XE.out {X : Cx} {W : WX} {pins pn : List (Addr × Obj)} {σ : L2.St} {H3 : Hp} {s3 : Shared} {sc : Scope} {cs : List (Str × Addr)} {fp : List Addr} {xe : Value → Shared → Prop} {u : Option (Value → Sem Unit)} {Q : Value → Shared → Prop} {acc : Value} {y : Value} {t : Shared}
    (hst : X.stack = X.env :: X.outer) (hfr : X.env.frame = some X.env.locals) (tk : Takes X W) (I3 : Inv X pins σ H3 s3) (hfp : ∀ b ∈ fp, FpOk X pins H3 b)
    (xx : XE ((X.blk s3 H3 sc (compEnvC sc cs s3.heap.objs.size X.env) fp).tr pn xe) (fun cls d _ H => W cls d σ H) y t) :
    notedBy (model X.prog X.w) X.A (compEnvC sc cs s3.heap.objs.size X.env) (fun e t' => outR (model X.prog X.w) X.A X.xe u Q acc (compEnvC sc cs s3.heap.objs.size X.env) (.error e) t') y t := by
  obtain ⟨a, B, sI, pins2, σ2, H', cls, d, rfl, I, nb, up, sky, na, os, ag, w⟩ := xx
  have cn : H' s3.heap.objs.size = none := I.free
  have ck := I3.fpOk (Nat.le_refl _) cn
  have cfr : s3.heap.objs.size ∉ frs X.stack := fun z => by
    rcases List.mem_cons.mp (I3.stkSub _ z) with z | z
    · exact ck.2.1 z
    · exact ck.2.2.1 z
  have I7 : Inv X pins σ H' sI := I3.call' (ch := fp) I.os I.base I.hok I.bare fun b hb => ⟨(hfp b hb).2.2.2.1, (hfp b hb).2.1, (hfp b hb).2.2.2.2.1, (hfp b hb).2.2.2.2.2⟩
  obtain ⟨m, hn, _⟩ := I.loc
  have hn : sI.heap.Ns s3.heap.objs.size m := hn
  have hA : X.A.frames = some (X.env :: X.outer) := by rw [I3.ok.frames, hst]
  have sky : Sky B (X.env :: X.outer) a (Zc cls d) s3.heap.objs.size t.heap := by rw [← hst]; exact sky
  show wpAny _ _ (noteFrame (.ref a) X.env) _ _ t
  refine skyNote Zc.steady hA hfr sky fun h1 x1 u1 => ?_
  refine ⟨m, (up.trans u1).ns hn, fun h2 sb => ?_⟩
  have sb : Heap.SameBut s3.heap.objs.size h1 h2 := sb
  obtain ⟨oc, es, ep, hc, dc, _⟩ := (up.trans u1).ns hn
  have nC : ∀ b o fs, h1.get? b = some o → o.data = .fields fs → b ≠ s3.heap.objs.size := fun b o fs q dd z => by
    rw [z, hc] at q
    cases q
    rw [dc] at dd
    cases dd
  obtain ⟨B2, p1, p2⟩ := restrict B fun b => decide (b ≠ s3.heap.objs.size)
  have p1 : ∀ b, b ≠ s3.heap.objs.size → B2.get? b = B.get? b := fun b hb => p1 b (by simp [hb])
  have p2 : B2.get? s3.heap.objs.size = none := p2 _ (by simp)
  have pn2 : ∀ b, B.get? b = none → B2.get? b = none := fun b q => by
    by_cases z : b = s3.heap.objs.size
    · rw [z]; exact p2
    · rw [p1 b z]; exact q
  have x2 : HeldZ B2 (X.env :: X.outer) a (Zc cls d) X.env.locals h2 := by
    obtain ⟨y1, y2, y3, o1, f1, R, o2, f2, e1, z1, d1, i1, nR, Ra, e2, d2, i3⟩ := x1
    refine ⟨fun b o q => ?_, pn2 a y2, framesTo y3 (fun b hb o q => ⟨o, ?_, rfl⟩) pn2, o1, f1, R, o2, f2, ?_, z1, d1, i1, pn2 R nR, Ra, ?_, d2, i3⟩
    · have hb : b ≠ s3.heap.objs.size := fun z => by rw [z, p2] at q; cases q
      rw [sb.2 b hb]
      exact y1 b o (by rw [← p1 b hb]; exact q)
    · rw [sb.2 b fun z => cfr (by rw [hst, ← z]; exact hb)]
      exact q
    · rw [sb.2 a (nC a o1 f1 e1 d1)]; exact e1
    · rw [sb.2 R (nC R o2 f2 e2 d2)]; exact e2
  refine passUp hfr x2 fun h3 x3 u3 => ?_
  obtain ⟨G, g1, g2⟩ := restrict sI.heap fun b => decide (b ≠ s3.heap.objs.size)
  have g1 : ∀ b, b ≠ s3.heap.objs.size → G.get? b = sI.heap.get? b := fun b hb => g1 b (by simp [hb])
  have g2 : G.get? s3.heap.objs.size = none := g2 _ (by simp)
  have gC : ∀ b o, G.get? b = some o → b ≠ s3.heap.objs.size := fun b o q z => by rw [z, g2] at q; cases q
  refine tk _ _ ⟨a, B2, { sI with heap := G, toks := sI.toks }, pins, σ, H', cls, d, rfl, ?_, fun b o q hb => ?_, fun b o q n => ?_, .inr (.inr ?_), na, os, ag, w⟩
  · obtain ⟨f0, f1, f2, f3, f4, f5⟩ := ck
    exact I7.turned (fun b o hb q => by rw [g1 b hb]; exact q) f0 f1 f3 f4 f5
  · have hc2 := gC b o q
    rw [p1 b hc2]
    exact nb b o (by rw [← g1 b hc2]; exact q) hb
  · have hc2 := gC b o q
    obtain ⟨sl, q1⟩ := (up.trans u1) b o (by rw [← g1 b hc2]; exact q) n
    obtain ⟨sl2, q2⟩ := u3 b { o with slots := sl } ((sb.2 b hc2).trans q1) n
    exact ⟨sl2, q2⟩
  · rw [hst]; exact x3
end DL

set_option maxRecDepth 100000
set_option maxHeartbeats 4000000
/-! a comprehension whose element may raise: the whole block, then over deep values -/
namespace DL
open PySem PySem.Spec PyProof.Rows L2
section
variable {X : Cx} {W : WX}
end
end DL

set_option maxRecDepth 100000
set_option maxHeartbeats 4000000
namespace DL
open PySem PySem.Spec PyProof.Rows L2
def compLX (A : D → DEnv → Option DEnv) (t : DT) (el : DE) (vs : List Nat) : List D → DEnv → List D → EO D
  | [], δ, acc => .ok (.lst acc) δ
  | d :: ds, δ, acc => if vsFree vs δ = true then match A d (blkEnv vs δ) with
      | none => .st
      | some δ1 => match t δ1 with
        | .ok false δ2 => compLX A t el vs ds (backEnv δ δ2) acc
        | .ok true δ2 => (match el δ2 with
          | .ok x δ3 => if acc.length < sizeLine then compLX A t el vs ds (backEnv δ δ3) (acc ++ [x]) else .st
          | .ex c ns es δ3 => .ex c ns es (backEnv δ δ3)
          | .st => .st)
        | _ => .st
    else .st
def dCompX (it : DI) (A : D → DEnv → Option DEnv) (t : DT) (el : DE) (vs : List Nat) : DE := fun δ => (it δ).bind fun ds δ1 => compLX A t el vs ds δ1 []
section
variable {c : Cf} {X : Cx} {tg e : Expr} {pos : Pos}
end
end DL

set_option maxRecDepth 100000
set_option maxHeartbeats 4000000
/-! try and raising comprehensions, reckoned from within -/
namespace DL
open PySem PySem.Spec PyProof.Rows L2
def tryK (tab : Str → Str → Option Bool) (hs : List (Str × DS)) : SO → SO
  | .ex cn ns ds δ => tryH tab hs cn ns ds δ
  | o => o
def tryK2 (tab : Str → Str → Option Bool) (s : DS) (r : List (Str × DS)) (cn : Str) (ns : List Str) (ds : List D) (δ : DEnv) : Option Bool → SO
  | some true => (match s δ with
    | .ex _ _ _ _ => .st
    | o => o)
  | some false => tryH tab r cn ns ds δ
  | none => .st
def hdS : SO → SO
  | .ex _ _ _ _ => .st
  | o => o
section
variable (tab : Str → Str → Option Bool) (hs r : List (Str × DS)) (f s : DS) (δ : DEnv) (d : D) (h cn : Str) (ns : List Str) (ds : List D)
theorem a_try : sTry tab f hs δ = tryK tab hs (f δ) := by unfold sTry tryK; cases f δ <;> rfl
theorem a_tryK_0 : tryK tab hs (.nx δ) = .nx δ := rfl
theorem a_tryK_1 : tryK tab hs (.rt d δ) = .rt d δ := rfl
theorem a_tryK_2 : tryK tab hs (.ex cn ns ds δ) = tryH tab hs cn ns ds δ := rfl
theorem a_tryH_0 : tryH tab [] cn ns ds δ = .ex cn ns ds δ := rfl
theorem a_tryH_1 : tryH tab ((h, s) :: r) cn ns ds δ = tryK2 tab s r cn ns ds δ (tab cn h) := by
  show (match tab cn h with | some true => _ | some false => _ | none => _) = _
  cases tab cn h with
  | none => rfl
  | some b => cases b <;> rfl
theorem a_tryK2_0 : tryK2 tab s r cn ns ds δ (some true) = hdS (s δ) := by
  show (match s δ with | .ex _ _ _ _ => SO.st | o => o) = _
  cases s δ <;> rfl
theorem a_tryK2_1 : tryK2 tab s r cn ns ds δ (some false) = tryH tab r cn ns ds δ := rfl
theorem a_hdS_0 : hdS (.nx δ) = .nx δ := rfl
theorem a_hdS_1 : hdS (.rt d δ) = .rt d δ := rfl
end
def compKX (A : D → DEnv → Option DEnv) (t : DT) (el : DE) (vs : List Nat) : EO (List D) → EO D
  | .ok ds δ => compLX A t el vs ds δ []
  | .ex c n d δ => .ex c n d δ
  | .st => .st
section
variable (A : D → DEnv → Option DEnv) (t : DT) (el : DE) (vs : List Nat)
theorem a_compX (it : DI) (δ : DEnv) : dCompX it A t el vs δ = compKX A t el vs (it δ) := by unfold dCompX; cases it δ <;> rfl
theorem a_compKX_0 (ds : List D) (δ : DEnv) : compKX A t el vs (.ok ds δ) = compLX A t el vs ds δ [] := rfl
end
end DL

set_option maxRecDepth 100000
set_option maxHeartbeats 4000000
namespace DL
open PySem PySem.Spec PyProof.Rows L2

/-! ### fields of instances -/
theorem RepL.lookup {K : PySem.W.Frag} {cl : Cw} {G : Hp} : ∀ {vs : List D} {xs : List V}, RepL K cl G xs vs → ∀ {ns : List Str} {f : Str} {d : D}, (ns.zip vs).lookup f = some d → ∃ v, (ns.zip xs).lookup f = some v ∧ Rep K cl G v d
  | [], _, h, ns, f, d, e => by cases ns <;> simp at e
  | v :: vs, _, h, ns, f, d, e => by
    cases h with
    | @cons x xs _ _ h1 h2 =>
      cases ns with
      | nil => simp at e
      | cons n ns =>
        simp only [List.zip_cons_cons, List.lookup_cons] at e ⊢
        cases q : f == n with
        | true => rw [q] at e; cases e; exact ⟨x, rfl, h1⟩
        | false => rw [q] at e; exact h2.lookup e
def dFld (cs : List Str) (f : Str) (fe : DE) : DE := fun δ => (fe δ).bind fun x δ1 => match x with
  | .ins c ns vs => if cs.contains c = true then (match (ns.zip vs).lookup f with | some d => .ok d δ1 | none => .st) else .st
  | _ => .st
section
variable {c : Cf} {X : Cx} {e o value : Expr} {fe fv : DE} {pos pos' : Pos} {f : Str} {cs : List Str}
end
/-! ### self.f = e, self by reference -/
def putN (f : Str) : List Str → List Str
  | [] => [f]
  | g :: r => if g = f then g :: r else g :: putN f r
def putD {α : Type} (f : Str) (v : α) : List Str → List α → List α
  | [], _ => [v]
  | g :: r, x :: xs => if g = f then v :: xs else x :: putD f v r xs
  | _ :: _, [] => []
theorem RepL.putD {K : PySem.W.Frag} {cl : Cw} {G : Hp} {v : V} {d : D} (f : Str) (r : Rep K cl G v d) : ∀ {vs : List D} {xs : List V}, RepL K cl G xs vs → ∀ (ns : List Str), RepL K cl G (DL.putD f v ns xs) (DL.putD f d ns vs)
  | [], _, h, ns => by
    cases h
    cases ns with
    | nil => exact .cons r .nil
    | cons n ns => exact .nil
  | y :: vs, _, h, ns => by
    cases h with
    | cons h1 h2 =>
      cases ns with
      | nil => exact .cons r .nil
      | cons n ns =>
        by_cases q : n = f
        · simp only [DL.putD, if_pos q]; exact .cons r h2
        · simp only [DL.putD, if_neg q]; exact .cons h1 (RepL.putD f r h2 ns)
def sPutF (cs : List Str) (j : Nat) (f : Str) (fe : DE) : DS := fun δ => (fe δ).to fun v δ1 => match look δ1 j with
  | some (.ins c ns vs) => if cs.contains c = true ∧ ns.length < 1000 then oNx (putV j (.ins c (putN f ns) (putD f v ns vs)) δ1) else .st
  | _ => .st
section
variable {c : Cf} {X : Cx} {e o value : Expr} {fe fv : DE} {pos pos' : Pos} {f : Str} {cs : List Str} {j : Nat}
end
end DL

set_option maxRecDepth 100000
set_option maxHeartbeats 4000000
namespace DL
open PySem PySem.Spec PyProof.Rows L2

/-! ### methods of frozen instances -/
def isIns (c m : Str) : D → Bool
  | .ins c' ns _ => decide (c' = c) && !ns.contains m
  | _ => false
def dRecv (c m : Str) (fe : DE) (fs : DA) : DA := fun δ => (fe δ).bind fun x δ1 => if isIns c m x = true then (fs δ1).bind fun xs δ2 => .ok (.v x :: xs) δ2 else .st
def dMeth (c m : Str) (ks : List Bool) (dvs : List D) (fn : List D → FO) (fe : DE) (fs : DA) : DE := dCall ks dvs fn (dRecv c m fe fs)
/-- an own class that may be made -/
def CalK (P : Program) (w : World) (K : PySem.W.Frag) (mg : Str → Option Value) (base : Heap) (cl : Cw) (k : Nat) (c : Str) (ks : List Bool) (fn : List D → FO) (dds : List D) : Prop :=
  ∃ C f fd ps ds dvs, cl c = some C ∧ mg c = some (.ref C) ∧ Mk K C f ∧ FnOk P w K mg base (L2.CX P w) k f fd ps (SpF K cl ks fn) ∧ Binds K fd ps ds ∧ Vals dvs ds ∧ ∀ G, RepL K cl G dvs dds
section
variable {c : Cf} {X : Cx} {CX' : CXT} {k : Nat} {C f : Addr} {fd : FuncData} {ps : List Str} {ds : List Value} {dvs : List V} {sp : Sp} {E : L2.St → XK} {e o : Expr} {es : List Expr} {ta : TE} {t : TA} {p pos apos : Pos} {m x : Str} {fe : DE} {fs : DA}
/-! ### properties -/
def dProp (cn f : Str) (fn : List D → FO) (fe : DE) : DE := fun δ => (fe δ).bind fun x δ1 => match x with
  | .ins c' _ _ => if c' = cn then (match fn [x] with | .ret d [] => .ok d δ1 | _ => .st) else .st
  | _ => .st
end
/-! ### new instances -/
def dMake (cn : Str) (ks : List Bool) (dvs : List D) (fn : List D → FO) (fs : DA) : DE := fun δ => (fs δ).bind fun as δ1 => match avs as with
  | none => .st
  | some ds => if ks = true :: (ds ++ dvs).map (fun _ => false) then (match fn (.ins cn [] [] :: (ds ++ dvs)) with
    | .ret .non [r] => .ok r δ1
    | .ex c ns es [_] => .ex c ns es δ1
    | _ => .st) else .st
section
variable {c : Cf} {X : Cx} {CX' : CXT} {k : Nat} {C f : Addr} {fd : FuncData} {ps : List Str} {ds : List Value} {dvs : List V} {sp : Sp} {E : L2.St → XK} {e o : Expr} {es : List Expr} {ta : TE} {t : TA} {p pos apos : Pos} {m x : Str} {fe : DE} {fs : DA}
end
end DL

set_option maxRecDepth 100000
set_option maxHeartbeats 4000000
namespace DL
open PySem PySem.Spec PyProof.Rows L2

/-! ### lists of ints -/
def insI (x : Int) : List Int → List Int
  | [] => [x]
  | y :: r => if x ≤ y then x :: y :: r else y :: insI x r
def sortI : List Int → List Int
  | [] => []
  | x :: r => insI x (sortI r)
section
variable {K : PySem.W.Frag} {cl : Cw}
end
section
variable {c : Cf} {X : Cx} {e : Expr} {es : List Expr} {fs : DA} {p pos : Pos}
end

/-! ### list(d.keys()) of a name -/
def keyD : Key → D
  | .inl i => .int i
  | .inr s => .str s
def dLKV (j : Nat) : DE := fun δ => match look δ j with
  | some (.dct ks _) => .ok (.lst (ks.map keyD)) δ
  | _ => .st
section
variable {c : Cf} {X : Cx} {e : Expr} {te : TE} {p apos cpos pos : Pos} {j : Nat}
end
end DL

set_option maxRecDepth 100000
set_option maxHeartbeats 4000000
namespace DL
open PySem PySem.Spec PyProof.Rows L2

/-! ### sets of ints -/
section
variable {K : PySem.W.Frag} {cl : Cw}
end
section
variable {c : Cf} {X : Cx} {e : Expr} {es : List Expr} {fs : DA} {p pos : Pos}
end
end DL

set_option maxRecDepth 100000
set_option maxHeartbeats 4000000
namespace DL
open PySem PySem.Spec PyProof.Rows L2

/-! ### an object that is nobody's stays while parts are reckoned -/
section
variable {K : PySem.W.Frag} {cl : Cw} {hx : Addr × Option Addr} {R : List (Nat × Addr)} {H0 G0 H G : Hp} {σ : L2.St} {δ : DEnv}
end
/-! ### {k: v} -/
def toKey : D → Option Key
  | .int i => some (.inl i)
  | .str s => some (.inr s)
  | _ => none
def dDct1 (fk fv : DE) : DE := fun δ => (fk δ).bind fun x δ1 => (fv δ1).bind fun y δ2 => match toKey x with
  | some k => .ok (.dct [k] [y]) δ2
  | none => .st
section
variable {c : Cf} {X : Cx} {k v : Expr} {fk fv : DE} {pos : Pos}
end
/-! ### d[k] = v of an own dict -/
def dctPut (ks : List Key) (vs : List D) (k : Key) (d : D) : D := if (ks.any fun k' => decide (k' = k)) = true then .dct ks (List.zipWith (fun k' x => if k' = k then d else x) ks vs) else .dct (ks ++ [k]) (vs ++ [d])
def sPutK (j : Nat) (fe fi : DE) : DS := fun δ => (fe δ).to fun v δ1 => match look δ1 j with
  | some _ => (fi δ1).to fun i δ2 => match look δ2 j, toKey i with
    | some (.dct ks vs), some k => if ks.length < sizeLine then oNx (putV j (dctPut ks vs k v) δ2) else .st
    | _, _ => .st
  | none => .st
section
variable {c : Cf} {X : Cx} {o i e : Expr} {j : Nat} {fe fi : DE} {tp pos : Pos}
end
end DL

set_option maxRecDepth 100000
set_option maxHeartbeats 4000000
namespace DL
open PySem PySem.Spec PyProof.Rows L2

def clsBody : Stmt → List Stmt
  | .ClassDef _ _ _ b _ _ _ _ _ _ _ => b
  | _ => []
/-! ### a hook: facts, defs at any address, further tests -/
abbrev AlZ : Type := Bool × He.AlD
def obsZ (fa : List He.Fa) (fn : List He5.DefA) (ex : List (PySem.W.Frag → Bool)) (K : PySem.W.Frag) : AlZ := (ex.all fun t => t K, He5.obsA fa fn K)
def SaysZ (fa : List He.Fa) (fn : List He5.DefA) (ex : List (PySem.W.Frag → Bool)) (K : PySem.W.Frag) : Prop := obsZ fa fn ex K = (true, He5.valA fn)
theorem SaysZ.a {fa : List He.Fa} {fn : List He5.DefA} {ex : List (PySem.W.Frag → Bool)} {K : PySem.W.Frag} (c : SaysZ fa fn ex K) : He5.SaysA fa fn K := congrArg (fun z : AlZ => z.2) c
theorem SaysZ.ex {fa : List He.Fa} {fn : List He5.DefA} {ex : List (PySem.W.Frag → Bool)} {K : PySem.W.Frag} (c : SaysZ fa fn ex K) (i : Nat) {t : PySem.W.Frag → Bool} (h : ex[i]? = some t := by rfl) : t K = true :=
  List.all_eq_true.mp (congrArg (fun z : AlZ => z.1) c) t (List.mem_of_getElem? h)
/-! ### properties -/
end DL

set_option maxRecDepth 100000
set_option maxHeartbeats 4000000
/-! the plain functions, reckoned from within: instances, sets, dicts -/
namespace DL
open PySem PySem.Spec PyProof.Rows L2
def fldO (cs : List Str) (f : Str) : D → Option D
  | .ins c ns vs => if cs.contains c = true then (ns.zip vs).lookup f else none
  | _ => none
def recvK (c m : Str) (fs : DA) : EO D → EO (List AV)
  | .ok x δ => if isIns c m x = true then consK2 x (fs δ) else .st
  | .ex c n d δ => .ex c n d δ
  | .st => .st
def propE (δ : DEnv) : FO → EO D
  | .ret d [] => .ok d δ
  | _ => .st
def propK (cn : Str) (fn : List D → FO) : EO D → EO D
  | .ok (.ins c' ns vs) δ => if c' = cn then propE δ (fn [.ins c' ns vs]) else .st
  | .ok _ _ => .st
  | .ex c n d δ => .ex c n d δ
  | .st => .st
def makeE (δ : DEnv) : FO → EO D
  | .ret .non [r] => .ok r δ
  | .ex c n d [_] => .ex c n d δ
  | _ => .st
def makeK2 (cn : Str) (ks : List Bool) (dvs : List D) (fn : List D → FO) (δ : DEnv) : Option (List D) → EO D
  | none => .st
  | some ds => if ks = true :: (ds ++ dvs).map (fun _ => false) then makeE δ (fn (.ins cn [] [] :: (ds ++ dvs))) else .st
def makeK (cn : Str) (ks : List Bool) (dvs : List D) (fn : List D → FO) : EO (List AV) → EO D
  | .ok as δ => makeK2 cn ks dvs fn δ (avs as)
  | .ex c n d δ => .ex c n d δ
  | .st => .st
def pfK2 (cs : List Str) (j : Nat) (f : Str) (v : D) (δ : DEnv) : Option D → SO
  | some (.ins c ns vs) => if cs.contains c = true ∧ ns.length < 1000 then oNx (putV j (.ins c (putN f ns) (putD f v ns vs)) δ) else .st
  | _ => .st
def pfK (cs : List Str) (j : Nat) (f : Str) : EO D → SO
  | .ok v δ => pfK2 cs j f v δ (look δ j)
  | .ex c n d δ => .ex c n d δ
  | .st => .st
def lkvK (δ : DEnv) : Option D → EO D
  | some (.dct ks _) => .ok (.lst (ks.map keyD)) δ
  | _ => .st
def dct2 (δ : DEnv) (y : D) : Option Key → EO D
  | some k => .ok (.dct [k] [y]) δ
  | none => .st
def dct1K2 (x : D) : EO D → EO D
  | .ok y δ => dct2 δ y (toKey x)
  | .ex c n d δ => .ex c n d δ
  | .st => .st
def dct1K (fv : DE) : EO D → EO D
  | .ok x δ => dct1K2 x (fv δ)
  | .ex c n d δ => .ex c n d δ
  | .st => .st
def pkK3 (j : Nat) (v : D) (δ : DEnv) : Option D → Option Key → SO
  | some (.dct ks vs), some k => if ks.length < sizeLine then oNx (putV j (dctPut ks vs k v) δ) else .st
  | _, _ => .st
def pkK2 (j : Nat) (v : D) : EO D → SO
  | .ok i δ => pkK3 j v δ (look δ j) (toKey i)
  | .ex c n d δ => .ex c n d δ
  | .st => .st
def pkK1 (j : Nat) (fi : DE) (v : D) (δ : DEnv) : Option D → SO
  | some _ => pkK2 j v (fi δ)
  | none => .st
def pkK (j : Nat) (fi : DE) : EO D → SO
  | .ok v δ => pkK1 j fi v δ (look δ j)
  | .ex c n d δ => .ex c n d δ
  | .st => .st
section
variable (δ : DEnv) (fa fb : DE) (fs : DA) (i j : Nat) (c f m : Str) (cs : List Str) (ks : List Bool) (dvs : List D) (fn : List D → FO)
theorem a_fld : dFld cs f fa δ = unK (fldO cs f) (fa δ) := by
  unfold dFld
  cases fa δ with
  | ok x δ1 =>
    cases x with
    | ins c ns vs =>
      show (if cs.contains c = true then (match (ns.zip vs).lookup f with | some d => EO.ok d δ1 | none => .st) else .st) = oE (if cs.contains c = true then (ns.zip vs).lookup f else none) δ1
      split
      · cases (ns.zip vs).lookup f <;> rfl
      · rfl
    | _ => rfl
  | ex c n d δ => rfl
  | st => rfl
theorem a_meth : dMeth c m ks dvs fn fa fs δ = callK endK ks dvs fn (recvK c m fs (fa δ)) := by
  unfold dMeth
  rw [call_eq]
  congr 1
  unfold dRecv
  cases fa δ with
  | ok x δ1 =>
    show (if isIns c m x = true then (fs δ1).bind fun xs δ2 => .ok (.v x :: xs) δ2 else .st) = if isIns c m x = true then consK2 x (fs δ1) else .st
    split
    · cases fs δ1 <;> rfl
    · rfl
  | ex c n d δ => rfl
  | st => rfl
theorem a_prop : dProp c f fn fa δ = propK c fn (fa δ) := by
  unfold dProp
  cases fa δ with
  | ok x δ1 =>
    cases x with
    | ins c' ns vs =>
      show (if c' = c then (match fn [.ins c' ns vs] with | .ret d [] => EO.ok d δ1 | _ => .st) else .st) = if c' = c then propE δ1 (fn [.ins c' ns vs]) else .st
      split
      · cases fn [.ins c' ns vs] with
        | ret d rs => cases rs <;> rfl
        | _ => rfl
      · rfl
    | _ => rfl
  | ex c n d δ => rfl
  | st => rfl
theorem a_propK (ns : List Str) (vs : List D) : propK c fn (.ok (.ins c ns vs) δ) = propE δ (fn [.ins c ns vs]) := if_pos rfl
theorem a_propE (d : D) : propE δ (.ret d []) = .ok d δ := rfl
theorem a_make : dMake c ks dvs fn fs δ = makeK c ks dvs fn (fs δ) := by
  unfold dMake
  cases fs δ with
  | ok as δ1 =>
    show (match avs as with | none => EO.st | some ds => if ks = true :: (ds ++ dvs).map (fun _ => false) then (match fn (.ins c [] [] :: (ds ++ dvs)) with | .ret .non [r] => .ok r δ1 | .ex c ns es [_] => .ex c ns es δ1 | _ => .st) else .st) = makeK2 c ks dvs fn δ1 (avs as)
    cases avs as with
    | none => rfl
    | some ds =>
      show (if ks = true :: (ds ++ dvs).map (fun _ => false) then (match fn (.ins c [] [] :: (ds ++ dvs)) with | .ret .non [r] => EO.ok r δ1 | .ex c ns es [_] => .ex c ns es δ1 | _ => .st) else .st) = if ks = true :: (ds ++ dvs).map (fun _ => false) then makeE δ1 (fn (.ins c [] [] :: (ds ++ dvs))) else .st
      split
      · cases fn (.ins c [] [] :: (ds ++ dvs)) with
        | ret d rs =>
          cases d with
          | non =>
            match rs with
            | [] => rfl
            | [r] => rfl
            | _ :: _ :: _ => rfl
          | _ => rfl
        | ex c n d rs =>
          match rs with
          | [] => rfl
          | [r] => rfl
          | _ :: _ :: _ => rfl
        | _ => rfl
      · rfl
  | ex c n d δ => rfl
  | st => rfl
theorem a_makeK (as : List AV) : makeK c ks dvs fn (.ok as δ) = makeK2 c ks dvs fn δ (avs as) := rfl
theorem a_makeE (r : D) : makeE δ (.ret .non [r]) = .ok r δ := rfl
theorem a_putF : sPutF cs j f fa δ = pfK cs j f (fa δ) := by
  unfold sPutF
  cases fa δ with
  | ok x δ1 =>
    show (match look δ1 j with | some (.ins c ns vs) => if cs.contains c = true ∧ ns.length < 1000 then oNx (putV j (.ins c (putN f ns) (putD f x ns vs)) δ1) else .st | _ => .st) = pfK2 cs j f x δ1 (look δ1 j)
    cases look δ1 j with
    | none => rfl
    | some d => cases d <;> rfl
  | ex c n d δ => rfl
  | st => rfl
theorem a_pfK (v : D) : pfK cs j f (.ok v δ) = pfK2 cs j f v δ (look δ j) := rfl
theorem a_lkv : dLKV j δ = lkvK δ (look δ j) := by
  unfold dLKV
  cases look δ j with
  | none => rfl
  | some d => cases d <;> rfl
theorem a_lkvK (k : List Key) (vs : List D) : lkvK δ (some (.dct k vs)) = .ok (.lst (k.map keyD)) δ := rfl
theorem a_dct1 : dDct1 fa fb δ = dct1K fb (fa δ) := by
  unfold dDct1
  cases fa δ with
  | ok x δ1 =>
    show (fb δ1).bind _ = dct1K2 x (fb δ1)
    cases fb δ1 with
    | ok y δ2 => show (match toKey x with | some k => EO.ok (.dct [k] [y]) δ2 | none => .st) = dct2 δ2 y (toKey x); cases toKey x <;> rfl
    | ex c n d δ => rfl
    | st => rfl
  | ex c n d δ => rfl
  | st => rfl
theorem a_dct1K (x : D) : dct1K fb (.ok x δ) = dct1K2 x (fb δ) := rfl
theorem a_dct1K2 (x y : D) : dct1K2 x (.ok y δ) = dct2 δ y (toKey x) := rfl
theorem a_dct2 (y : D) (k : Key) : dct2 δ y (some k) = .ok (.dct [k] [y]) δ := rfl
theorem a_key (n : Int) : toKey (.int n) = some (.inl n) := rfl
theorem a_putK : sPutK j fa fb δ = pkK j fb (fa δ) := by
  unfold sPutK
  cases fa δ with
  | ok x δ1 =>
    show (match look δ1 j with | some _ => (fb δ1).to _ | none => .st) = pkK1 j fb x δ1 (look δ1 j)
    cases look δ1 j with
    | none => rfl
    | some d =>
      show (fb δ1).to _ = pkK2 j x (fb δ1)
      cases fb δ1 with
      | ok y δ2 =>
        show (match look δ2 j, toKey y with | some (.dct ks vs), some k => if ks.length < sizeLine then oNx (putV j (dctPut ks vs k x) δ2) else .st | _, _ => .st) = pkK3 j x δ2 (look δ2 j) (toKey y)
        cases look δ2 j with
        | none => rfl
        | some d => cases d <;> cases toKey y <;> rfl
      | ex c n d δ => rfl
      | st => rfl
  | ex c n d δ => rfl
  | st => rfl
theorem a_pk0 (v : D) : pkK j fb (.ok v δ) = pkK1 j fb v δ (look δ j) := rfl
theorem a_pk1 (v d : D) : pkK1 j fb v δ (some d) = pkK2 j v (fb δ) := rfl
theorem a_pk2 (v i : D) : pkK2 j v (.ok i δ) = pkK3 j v δ (look δ j) (toKey i) := rfl
end
def rg2 : D → D → Option (List D)
  | .int i, .int j => if -(2 ^ 62) ≤ i ∧ i < 2 ^ 62 ∧ -(2 ^ 62) ≤ j ∧ j < 2 ^ 62 then some (rngD i j) else none
  | _, _ => none
def oL : Option (List D) → DEnv → EO (List D)
  | some z, δ => .ok z δ
  | none, _ => .st
def rg2K2 (x : D) : EO D → EO (List D)
  | .ok y δ => oL (rg2 x y) δ
  | .ex c n d δ => .ex c n d δ
  | .st => .st
def rg2K (fb : DE) : EO D → EO (List D)
  | .ok x δ => rg2K2 x (fb δ)
  | .ex c n d δ => .ex c n d δ
  | .st => .st
section
variable (δ : DEnv) (fa fb : DE)
theorem a_rg2 : dRg2 fa fb δ = rg2K fb (fa δ) := by
  unfold dRg2
  cases fa δ with
  | ok x δ1 =>
    show (fb δ1).bind _ = rg2K2 x (fb δ1)
    cases fb δ1 with
    | ok y δ2 =>
      cases x with
      | int i =>
        cases y with
        | int j =>
          show (if -(2 ^ 62) ≤ i ∧ i < 2 ^ 62 ∧ -(2 ^ 62) ≤ j ∧ j < 2 ^ 62 then EO.ok (rngD i j) δ2 else .st) = oL (if -(2 ^ 62) ≤ i ∧ i < 2 ^ 62 ∧ -(2 ^ 62) ≤ j ∧ j < 2 ^ 62 then some (rngD i j) else none) δ2
          split <;> rfl
        | _ => rfl
      | _ => cases y <;> rfl
    | ex c n d δ => rfl
    | st => rfl
  | ex c n d δ => rfl
  | st => rfl
theorem a_rg2K (x : D) : rg2K fb (.ok x δ) = rg2K2 x (fb δ) := rfl
theorem a_rg2K2 (x y : D) : rg2K2 x (.ok y δ) = oL (rg2 x y) δ := rfl
theorem a_oL (l : List D) : oL (some l) δ = .ok l δ := rfl
end
end DL

set_option maxRecDepth 100000
set_option maxHeartbeats 4000000
namespace DL
open PySem PySem.Spec PyProof.Rows L2

/-! ### `in` by an own class -/
section
variable {c : Cf} {X : Cx} {k : Nat} {C f : Addr} {fd : FuncData} {ps : List Str} {sp : Sp}
end
/-! ### reckoning -/
end DL

set_option maxRecDepth 100000
set_option maxHeartbeats 4000000
namespace DL
open PySem PySem.Spec PyProof.Rows L2

/-! ### a call that is lent lists: what it hands back holds none of them -/
def scal : D → Bool
  | .non => true | .bl _ => true | .int _ => true | .str _ => true | _ => false
def dCallW (ks : List Bool) (dvs : List D) (fn : List D → FO) (fs : DA) : DE := fun δ => (fs δ).bind fun as δ1 => match avd δ1 as with
  | some ds => if ks = (ds ++ dvs).map (fun _ => false) then (match fn (ds ++ dvs) with | .ret d [] => if scal d = true then .ok d δ1 else .st | _ => .st) else .st
  | none => .st
section
variable {K : PySem.W.Frag} {cl : Cw} {hx : Addr × Option Addr} {R : List (Nat × Addr)} {H0 G0 H G : Hp} {σ : L2.St} {δ : DEnv}
end
section
variable {c : Cf} {X : Cx} {k : Nat} {e : Expr} {es : List Expr} {fs : DA} {x : Str} {p pos : Pos}
/-! ### tuple(x) of a list that stays one's own -/
def dTupV (j : Nat) : DE := fun δ => match look δ j with
  | some (.lst ds) => .ok (.tup ds) δ
  | _ => .st
end
/-! ### reckoning -/
def cwE (δ : DEnv) : FO → EO D
  | .ret d [] => if scal d = true then .ok d δ else .st
  | _ => .st
def cwD (ks : List Bool) (dvs : List D) (fn : List D → FO) (δ : DEnv) : Option (List D) → EO D
  | some ds => if ks = (ds ++ dvs).map (fun _ => false) then cwE δ (fn (ds ++ dvs)) else .st
  | none => .st
def cwK (ks : List Bool) (dvs : List D) (fn : List D → FO) : EO (List AV) → EO D
  | .ok as δ => cwD ks dvs fn δ (avd δ as)
  | .ex c n d δ => .ex c n d δ
  | .st => .st
section
variable (ks : List Bool) (dvs : List D) (fn : List D → FO) (fs : DA) (δ : DEnv) (j : Nat)
theorem a_cw : dCallW ks dvs fn fs δ = cwK ks dvs fn (fs δ) := by
  unfold dCallW
  cases fs δ with
  | ok as δ1 =>
    show (match avd δ1 as with | some ds => _ | none => _) = cwD ks dvs fn δ1 (avd δ1 as)
    cases avd δ1 as with
    | none => rfl
    | some ds =>
      show (if ks = (ds ++ dvs).map (fun _ => false) then _ else _) = (if ks = (ds ++ dvs).map (fun _ => false) then _ else _)
      by_cases h : ks = (ds ++ dvs).map (fun _ => false)
      · rw [if_pos h, if_pos h]
        cases fn (ds ++ dvs) with
        | ret d rs => cases rs <;> rfl
        | _ => rfl
      · rw [if_neg h, if_neg h]
  | ex c n d δ => rfl
  | st => rfl
theorem a_cwb (b : Bool) : cwE δ (.ret (.bl b) []) = .ok (.bl b) δ := rfl
def tpK (δ : DEnv) : Option D → EO D
  | some (.lst ds) => .ok (.tup ds) δ
  | _ => .st
theorem a_tupV : dTupV j δ = tpK δ (look δ j) := by
  unfold dTupV
  cases look δ j with
  | none => rfl
  | some d => cases d <;> rfl
theorem a_tpK (ds : List D) : tpK δ (some (.lst ds)) = .ok (.tup ds) δ := rfl
end
end DL

set_option maxRecDepth 100000
set_option maxHeartbeats 4000000
namespace DL
open PySem PySem.Spec PyProof.Rows L2
/-! ### while and slices reckoned -/
def slE (δ : DEnv) : Option D → EO D
  | some z => .ok z δ
  | none => .st
def slK (fl fh : Option DE) : EO D → EO D
  | .ok d δ1 => (dOpt fl δ1).bind fun l δ2 => (dOpt fh δ2).bind fun h δ3 => slE δ3 (slD l h d)
  | .ex c n d δ => .ex c n d δ
  | .st => .st
def slH (l : Option Int) (d : D) : EO D → EO D
  | .ok (.int i) δ => slE δ (slD l (some i) d)
  | .ex c n d δ => .ex c n d δ
  | _ => .st
def slL (d : D) : EO D → EO D
  | .ok (.int i) δ => slE δ (slD (some i) none d)
  | .ex c n d δ => .ex c n d δ
  | _ => .st
def oI : EO D → EO (Option Int)
  | .ok (.int i) δ => .ok (some i) δ
  | .ex c n d δ => .ex c n d δ
  | _ => .st
theorem dOpt_some (f : DE) (δ : DEnv) : dOpt (some f) δ = oI (f δ) := by
  show (f δ).bind _ = _
  cases f δ with
  | ok x δ1 => cases x <;> rfl
  | ex c n d δ => rfl
  | st => rfl
section
variable (fe fa : DE) (fl fh : Option DE) (δ : DEnv) (d : D) (l : Option Int) (i : Int)
theorem a_sl : dSl fe fl fh δ = slK fl fh (fe δ) := by
  unfold dSl
  cases fe δ with
  | ok d δ1 => rfl
  | ex c n d δ => rfl
  | st => rfl
theorem a_slK0 : slK none (some fa) (.ok d δ) = slH none d (fa δ) := by
  show (dOpt (some fa) δ).bind (fun h δ3 => slE δ3 (slD none h d)) = _
  rw [dOpt_some]
  cases fa δ with
  | ok x δ1 => cases x <;> rfl
  | ex c n d δ => rfl
  | st => rfl
theorem a_slK1 : slK (some fa) none (.ok d δ) = slL d (fa δ) := by
  show (dOpt (some fa) δ).bind (fun l δ2 => slE δ2 (slD l none d)) = _
  rw [dOpt_some]
  cases fa δ with
  | ok x δ1 => cases x <;> rfl
  | ex c n d δ => rfl
  | st => rfl
theorem a_slH : slH l d (.ok (.int i) δ) = slE δ (slD l (some i) d) := rfl
theorem a_slL : slL d (.ok (.int i) δ) = slE δ (slD (some i) none d) := rfl
theorem a_slE : slE δ (some d) = .ok d δ := rfl
theorem a_slLst (lo hi : Option Int) (ds : List D) : slD lo hi (.lst ds) = some (.lst (cutL ds lo hi)) := rfl
theorem a_slTup (lo hi : Option Int) (ds : List D) : slD lo hi (.tup ds) = some (.tup (cutL ds lo hi)) := rfl
end
/-! chains of comparisons -/
def ch3 (g' : D → D → Option D) (y : D) : EO D → EO D
  | .ok z δ => oE (g' y z) δ
  | .ex c n d δ => .ex c n d δ
  | .st => .st
def ch2 (g' : D → D → Option D) (fe : DE) (y : D) (δ : DEnv) : Option D → EO D
  | some (.bl true) => ch3 g' y (fe δ)
  | some (.bl false) => .ok (.bl false) δ
  | _ => .st
def ch1 (g g' : D → D → Option D) (fe : DE) (x : D) : EO D → EO D
  | .ok y δ => ch2 g' fe y δ (g x y)
  | .ex c n d δ => .ex c n d δ
  | .st => .st
def chK (g g' : D → D → Option D) (fb fe : DE) : EO D → EO D
  | .ok x δ => ch1 g g' fe x (fb δ)
  | .ex c n d δ => .ex c n d δ
  | .st => .st
section
variable (g g' : D → D → Option D) (fa fb fe : DE) (x y z : D) (δ : DEnv)
theorem a_ch : dChain g g' fa fb fe δ = chK g g' fb fe (fa δ) := by
  unfold dChain
  cases fa δ with
  | ok x δ1 =>
    show (fb δ1).bind _ = ch1 g g' fe x (fb δ1)
    cases fb δ1 with
    | ok y δ2 =>
      show (match g x y with | some (.bl true) => (fe δ2).bind fun z δ3 => (match g' y z with | some w => EO.ok w δ3 | none => .st) | some (.bl false) => EO.ok (.bl false) δ2 | _ => .st) = ch2 g' fe y δ2 (g x y)
      cases g x y with
      | none => rfl
      | some d =>
        cases d with
        | bl b =>
          cases b with
          | false => rfl
          | true =>
            show (fe δ2).bind _ = ch3 g' y (fe δ2)
            cases fe δ2 with
            | ok z δ3 =>
              show (match g' y z with | some w => EO.ok w δ3 | none => .st) = oE (g' y z) δ3
              cases g' y z <;> rfl
            | ex c n d δ => rfl
            | st => rfl
        | _ => rfl
    | ex c n d δ => rfl
    | st => rfl
  | ex c n d δ => rfl
  | st => rfl
theorem a_chK : chK g g' fb fe (.ok x δ) = ch1 g g' fe x (fb δ) := rfl
theorem a_ch1 : ch1 g g' fe x (.ok y δ) = ch2 g' fe y δ (g x y) := rfl
theorem a_ch2 : ch2 g' fe y δ (some (.bl true)) = ch3 g' y (fe δ) := rfl
theorem a_ch2' : ch2 g' fe y δ (some (.bl false)) = .ok (.bl false) δ := rfl
theorem a_ch3 : ch3 g' y (.ok z δ) = oE (g' y z) δ := rfl
end
end DL

set_option maxRecDepth 100000
set_option maxHeartbeats 4000000
namespace DL
open PySem PySem.Spec PyProof.Rows L2
/-! ### sum of whole numbers -/
section
variable {c : Cf} {X : Cx} {e : Expr} {es : List Expr} {fs : DA} {p pos : Pos}
end
end DL

set_option maxRecDepth 100000
set_option maxHeartbeats 4000000
namespace DL
open PySem PySem.Spec PyProof.Rows L2
/-! ### try .. except C as e, of a body that does not raise -/
section
variable {c : Cf} {X : Cx} {pos np pos' : Pos}
end
end DL

set_option maxRecDepth 100000
set_option maxHeartbeats 4000000
namespace DL
open PySem PySem.Spec PyProof.Rows L2
/-! ### what a source of items gives tuple(..) -/
/-! ### tuple(d) of a dict that stays one's own -/
end DL

set_option maxRecDepth 100000
set_option maxHeartbeats 4000000
namespace DL
open PySem PySem.Spec PyProof.Rows L2
/-! ### tuple(d), tuple(d.values()) of a name -/
section
variable {c : Cf} {X : Cx} {e : Expr} {te : TE} {p apos cpos pos : Pos} {j : Nat}
end
/-! ### reckoning -/
end DL

set_option maxRecDepth 100000
set_option maxHeartbeats 4000000
namespace DL
open PySem PySem.Spec PyProof.Rows L2
section
variable {c : Cf} {X : Cx} {x : Str} {p pos : Pos} {a o : Expr} {fa : DE} {j : Nat}
/-! ### a global text -/
/-! ### x in d of a dict that stays one's own -/
def keyO : D → Option Key
  | .int i => some (.inl i)
  | .str s => some (.inr s)
  | _ => none
end
/-! ### reckoning -/
end DL

set_option maxRecDepth 100000
set_option maxHeartbeats 4000000
namespace DL
open PySem PySem.Spec PyProof.Rows L2
/-! ### a sign in a text -/
section
variable {c : Cf} {X : Cx}
end
end DL

set_option maxRecDepth 100000
set_option maxHeartbeats 4000000
namespace DL
open PySem PySem.Spec PyProof.Rows L2
/-! ### [elt for a in as for b in bs] -/
section
variable {K : PySem.W.Frag} {cl : Cw} {hx : Addr × Option Addr} {R : List (Nat × Addr)} {H0 G0 H G H' G' : Hp} {σ : L2.St} {δ : DEnv} {vs : List Nat}
theorem Ok.slD (k : Ok K cl hx R H0 G0 H G σ δ) {p : Addr} {u : HO} (h0 : H0 p = some u) (hR : ∀ q ∈ R, q.2 ≠ p) {j : Nat} {t : Sl} (e : δ[j]? = some t) (o : isO t = true) : σ[j]? ≠ some (some (.ref p)) := fun z => by
  cases t with
  | own d =>
    obtain ⟨a, q, _, h, _⟩ := k.sl j _ _ e z
    cases q
    rw [h0] at h; cases h
  | rf d =>
    obtain ⟨q, hq, rfl⟩ := k.rfs j d e
    obtain ⟨d', _, e2⟩ := k.refs q hq
    rw [z] at e2
    cases e2
    exact hR q hq rfl
  | un => cases o
  | val d => cases o
  | exc c ns ds => cases o
theorem Ok.gD (k : Ok K cl hx R H0 G0 H G σ δ) {p : Addr} {u : HO} (h0 : H0 p = some u) (g0 : G0 p = none) : G p = none := by
  cases e : G p with
  | none => rfl
  | some v =>
    rcases k.new p v e with z | z
    · rw [g0] at z; cases z
    · rw [h0] at z; cases z
theorem Ok.swap (k : Ok K cl hx R H0 G0 H G σ δ) {p : Addr} {o u : HO} (h0 : H0 p = some u) (g0 : G0 p = none) (hR : ∀ q ∈ R, q.2 ≠ p) : Ok K cl hx R (upd H0 p o) G0 (upd H p o) G σ δ := by
  have gp := k.gD h0 g0
  have hn : ∀ {b : Addr}, H0 b = none → b ≠ p := fun {b} e z => by rw [z, h0] at e; cases e
  refine ⟨k.len, fun b v e => by rw [upd_ne (ne_of_none e gp)]; exact k.sub b v e, k.ext, fun b v e => ?_, fun b v e hb => ?_, fun q hq => ?_, fun i s x e1 e2 => ?_, k.sep, k.refs, k.rfs⟩
  · rcases k.new b v e with z | z
    · exact .inl z
    · exact .inr (by rw [upd_ne (hn z)]; exact z)
  · by_cases h : b = p
    · subst h; rw [upd_same] at e ⊢; exact e
    · rw [upd_ne h] at e ⊢; exact k.kept b v e hb
  · rw [upd_ne (hR q hq)]; exact k.rfree q hq
  · have q := k.sl i s x e1 e2
    have ne : ∀ b, x = some (.ref b) → isO s = true → b ≠ p := fun b hb hO z => by
      subst z; subst hb
      exact k.slD h0 hR e1 hO e2
    cases s with
    | un => trivial
    | val d => exact q
    | own d => obtain ⟨b, q1, q2, q3, q4⟩ := q; exact ⟨b, q1, q2, by rw [upd_ne (hn q3)]; exact q3, q4.mono (.refl G) fun o z => by rw [upd_ne (ne b q1 rfl)]; exact z⟩
    | rf d => obtain ⟨b, q1, q2, q4⟩ := q; exact ⟨b, q1, q2, q4.mono (.refl G) fun o z => by rw [upd_ne (ne b q1 rfl)]; exact z⟩
    | exc c ns ds => exact q
end
section
variable {c : Cf} {X : Cx} {tg tg1 e : Expr} {pos : Pos}
end
/-! ### divmod -/
section
variable {c : Cf} {X : Cx} {e : Expr} {es : List Expr} {fs : DA} {p pos : Pos}
end
end DL

set_option maxRecDepth 100000
set_option maxHeartbeats 4000000
namespace DL
open PySem PySem.Spec PyProof.Rows L2
/-! ### sorted(set(l)), l a list of ints -/
section
variable {P : Program} {w : World} {A : Around} {E : Value → Shared → Prop} {s : Shared}
end
/-! ### over the layer -/
section
variable {X : Cx}
end
section
variable {c : Cf} {X : Cx} {e : Expr} {es : List Expr} {fs : DA} {p p2 pos pos2 : Pos}
end
end DL

set_option maxRecDepth 100000
set_option maxHeartbeats 4000000
namespace DL
open PySem PySem.Spec PyProof.Rows L2
/-! ### y = [elt for a in as for b in bs] -/
section
variable {c : Cf} {X : Cx} {tg tg1 : Expr} {pos spos py : Pos} {elt iter iter1 : Expr} {scope : Scope} {own : List (Str × Nat)} {vs1 ts ts1 : List Nat} {it it1 : DI} {A A1 : D → DEnv → Option DEnv} {el : DE} {i : Nat} {y : Str}
end
end DL

set_option maxRecDepth 100000
set_option maxHeartbeats 4000000
namespace DL
open PySem PySem.Spec PyProof.Rows L2
/-! ### own classes told from one another and from the built-in types -/
structure InK (K : PySem.W.Frag) (C : Addr) : Prop where
  cl : Cls K C
  ha : PySem.W.findIn K (.ref C) "__class__" = some (some (.builtin "object.__class__"))
  hn : PySem.W.specialIn K (.builtin "object.__class__") "__get__" = some (some (.builtin "getset_descriptor.__get__"))
  htk : PySem.W.takesIn K (.builtin "object.__class__") = some true
  hm : PySem.W.mroIn K C (.type "object") = some true
/-- the class named cn among the classes cs -/
structure IsC (K : PySem.W.Frag) (cl : Cw) (cn : Str) (cs : List Str) : Prop where
  of : ∀ C, cl cn = some C → ∀ t ∈ tyNames, PySem.W.kitOne K (.type t) (.ref C) = some false ∧ PySem.W.notFirst K C (.type t) = true
  ow : ∀ C, cl cn = some C → ∀ c' ∈ cs, ∀ C', cl c' = some C' → InK K C' ∧ PySem.W.kitOne K (.ref C') (.ref C) = some (decide (c' = cn)) ∧ PySem.W.notFirst K C (.ref C') = true
/-! ### isinstance of an own class -/
def isO1 (cn : Str) (cs : List Str) (d : D) : Option Bool := match tyD d with
  | some _ => some false
  | none => match d with
    | .ins c' _ _ => if cs.contains c' then some (decide (c' = cn)) else none
    | _ => none
def dIsO (cn : Str) (cs : List Str) (fe : DE) : DE := fun δ => (fe δ).bind fun d δ1 => match isO1 cn cs d with
  | some b => .ok (.bl b) δ1
  | none => .st
section
variable {c : Cf} {X : Cx} {e : Expr} {fe : DE} {p pos pt : Pos} {cn : Str} {cs : List Str}
end
/-! ### == by an own class -/
section
variable {c : Cf} {X : Cx} {k : Nat} {cn : Str} {cs : List Str} {fn : List D → FO}
end
/-! ### reckoning -/
theorem a_isO (cn : Str) (cs : List Str) (fe : DE) (δ : DEnv) : dIsO cn cs fe δ = unK (fun d => (isO1 cn cs d).map D.bl) (fe δ) := by
  unfold dIsO
  cases fe δ with
  | ok d δ1 =>
    show (match isO1 cn cs d with | some b => EO.ok (D.bl b) δ1 | none => .st) = _
    rw [a_unK_0]
    cases isO1 cn cs d <;> rfl
  | ex c ns ds δ1 => rfl
  | st => rfl
end DL

set_option maxRecDepth 100000
set_option maxHeartbeats 4000000
namespace DL
open PySem PySem.Spec PyProof.Rows L2
/-! ### != by an own class that has == alone -/
section
open PySem.W
variable {prog : Program} {w : World} {A : Around} {E : Value → Shared → Prop} {s : Shared} {K : PySem.W.Frag} {x C L f : Addr} {h₀ : Heap} {m : Str → Option Value} {ox : Obj} {od : Option Obj} {b tb : Value}
end
/-! ### over the layer -/
section
variable {c : Cf} {X : Cx} {k : Nat} {cn : Str} {cs : List Str} {fn : List D → FO}
end
end DL

set_option maxRecDepth 100000
set_option maxHeartbeats 4000000
namespace DL
open PySem PySem.Spec PyProof.Rows L2
/-! ### sorted(l), l a list of lists of ints -/
section
variable {X : Cx}
end
section
variable {K : PySem.W.Frag} {cl : Cw}
end
section
variable {c : Cf} {X : Cx} {e : Expr} {es : List Expr} {fs : DA} {p pos : Pos}
end
end DL

set_option maxRecDepth 100000
set_option maxHeartbeats 4000000
namespace DL
open PySem PySem.Spec PyProof.Rows L2
/-! ### an own exception class whose __init__ keeps its arguments as fields -/
def oexB (K : PySem.W.Frag) (C : Addr) : Bool := (match K.lookup C with
  | some ⟨.type "type", _, .cls cd, sl⟩ => (match cd.mro, sl.toList with
    | .ref C' :: bm, [_, _, _, _, some (.builtin n), _] => decide (C' = C) && (decide (n = "ValueError.__new__") && (!cd.hasDel && (cd.hasDict && PySem.HandSPX.refsVE bm)))
    | _, _ => false)
  | _ => false) && (He.eqO (PySem.W.findIn K (.ref C) "__setattr__") (some (some (.builtin "object.__setattr__"))) && (decide (PySem.W.subIn K (.ref C) (.type "BaseException") = some true) && (decide (PySem.W.typeIn K (.ref C) = some (.type "type")) && PySem.W.keepIn K (.ref C))))
theorem oexB_ok {K : PySem.W.Frag} {C : Addr} (h : oexB K C = true) : OexC K C := by
  obtain ⟨h1, h⟩ := He.ba h
  obtain ⟨h2, h⟩ := He.ba h
  obtain ⟨h3, h⟩ := He.ba h
  obtain ⟨h4, h5⟩ := He.ba h
  refine ⟨?_, He.eqO_ok h2, of_decide_eq_true h3, of_decide_eq_true h4, h5⟩
  split at h1
  · rename_i dd cd sl ho
    split at h1
    · rename_i C' bm k0 k1 k2 k3 n k5 hm hs
      simp only [Bool.and_eq_true, decide_eq_true_eq, Bool.not_eq_true'] at h1
      obtain ⟨rfl, rfl, hdel, hdict, hre⟩ := h1
      obtain ⟨nm, bs, mro, ns, qn, hd, sn, sub, ab, col, del⟩ := cd
      dsimp only at hm hdel hdict
      subst hm hdel hdict
      have hsl : sl = #[k0, k1, k2, k3, some (.builtin "ValueError.__new__"), k5] := by
        obtain ⟨l⟩ := sl
        simp only at hs
        rw [hs]
      subst hsl
      exact ⟨nm, qn, ns, bs, bm, sn, sub, ab, col, dd, k0, k1, k2, k3, k5, ho, hre⟩
    · cases h1
  · cases h1
/-- what the __init__ keeps -/
def spX (C : Addr) (fs : List Str) : Sp := fun vs H Q _ => ∃ a ys, vs = .ref a :: ys ∧ ys.length = fs.length ∧ H a = some (exo a C none) ∧ ∀ dx, H dx = none → dx ≠ a → Q .non (upd (upd H dx (exd dx (fs.zip ys).reverse)) a (exo a C (some dx)))
/-- an own exception class that may be raised with arguments -/
def CalX (P : Program) (w : World) (K : PySem.W.Frag) (mg : Str → Option Value) (base : Heap) (cl : Cw) (x : Str) (fs : List Str) : Prop :=
  ∃ C f fd ps, cl x = some C ∧ mg x = some (.ref C) ∧ OexC K C ∧ PySem.W.findIn K (.ref C) "__init__" = some (some (.ref f)) ∧ PySem.W.typeIn K (.ref f) = some (.type "function") ∧ FnOk P w K mg base (L2.CX P w) 1 f fd ps (spX C fs) ∧ Binds K fd ps []
section
variable {X : Cx}
theorem self_pe {i : Nat} {x : Str} {pos : Pos} (hN : X.N[i]? = some x) (hv : Vis X.env.scope x) (hd : (x == ("__debug__" : Str)) = false) (hcd : (x == ("__classdict__" : Str)) = false) : PE X (.Name x pos) (tVar i) := pe_var hN hv hd hcd
theorem pss_init1 {f x s : Str} {p1 p2 p3 p4 : Pos} {C : Addr} (T : OexC X.K C) (n1 : PySem.W.findIn X.K (.ref C) f = some none) (h0 : PE X (.Name s p1) (tVar 0)) (h1 : PE X (.Name x p3) (tVar 1))
    (hs : swapsWith (.Name x p3) (some (.Attribute (.Name s p1) f p2)) p4.line X.env = pure false) :
    ∃ t, PSs X [.Assign [.Attribute (.Name s p1) f p2] (.Name x p3) p4] t ∧ ∀ a y H (D : Ends) σ, σ[0]? = some (some (V.ref a)) → σ[1]? = some (some y) → H a = some (exo a C none) → (∀ dx, H dx = none → dx ≠ a → D.nx σ (upd (upd H dx (exd dx [(f, y)])) a (exo a C (some dx)))) → t D σ H := by
  refine ⟨_, pss_one (ps_ost h0 h1 hs), fun a y H D σ e0 e1 ea q => ?_⟩
  exact ⟨y, e1, .ref a, e0, a, C, rfl, T, n1, .inl ⟨ea, fun dx hn ne => q dx hn ne⟩⟩
theorem pss_init2 {f f2 x x2 s : Str} {p1 p2 p3 p4 q1 q2 q3 q4 : Pos} {C : Addr} (T : OexC X.K C) (n1 : PySem.W.findIn X.K (.ref C) f = some none) (n2 : PySem.W.findIn X.K (.ref C) f2 = some none) (h0 : PE X (.Name s p1) (tVar 0)) (h0' : PE X (.Name s q1) (tVar 0)) (h1 : PE X (.Name x p3) (tVar 1)) (h2 : PE X (.Name x2 q3) (tVar 2))
    (hs : swapsWith (.Name x p3) (some (.Attribute (.Name s p1) f p2)) p4.line X.env = pure false) (hs2 : swapsWith (.Name x2 q3) (some (.Attribute (.Name s q1) f2 q2)) q4.line X.env = pure false) :
    ∃ t, PSs X [.Assign [.Attribute (.Name s p1) f p2] (.Name x p3) p4, .Assign [.Attribute (.Name s q1) f2 q2] (.Name x2 q3) q4] t ∧ ∀ a y y2 H (D : Ends) σ, σ[0]? = some (some (V.ref a)) → σ[1]? = some (some y) → σ[2]? = some (some y2) → H a = some (exo a C none) →
      (∀ dx, H dx = none → dx ≠ a → D.nx σ (upd (upd H dx (exd dx [(f2, y2), (f, y)])) a (exo a C (some dx)))) → t D σ H := by
  refine ⟨_, pss_cons (ps_ost h0 h1 hs) (pss_one (ps_ost h0' h2 hs2)), fun a y y2 H D σ e0 e1 e2 ea q => ?_⟩
  refine ⟨y, e1, .ref a, e0, a, C, rfl, T, n1, .inl ⟨ea, fun dx hn ne => ?_⟩⟩
  refine ⟨y2, e2, .ref a, e0, a, C, rfl, T, n2, .inr ⟨dx, [(f, y)], upd_same, by rw [upd_ne ne]; exact upd_same, by show 1 ≤ 900; omega, ?_⟩⟩
  have e : upd (upd (upd H dx (exd dx [(f, y)])) a (exo a C (some dx))) dx (exd dx [(f2, y2), (f, y)]) = upd (upd H dx (exd dx [(f2, y2), (f, y)])) a (exo a C (some dx)) := by
    funext b
    by_cases hb : b = dx
    · subst hb
      rw [upd_same, upd_ne ne, upd_same]
    · rw [upd_ne hb]
      by_cases ha : b = a
      · subst ha; rw [upd_same, upd_same]
      · rw [upd_ne ha, upd_ne hb, upd_ne ha, upd_ne hb]
  show D.nx σ (upd (upd (upd H dx (exd dx [(f, y)])) a (exo a C (some dx))) dx (exd dx [(f2, y2), (f, y)]))
  rw [e]
  exact q dx hn ne
end
theorem calX1 {P : Program} {w : World} {K : PySem.W.Frag} {mg : Str → Option Value} {base : Heap} {cl : Cw} {qual x0 : Str} {st : Stmt} {C fI : Addr} {fd : FuncData} {f x s : Str} {p1 p2 p3 p4 : Pos} (e1 : cl x0 = some C) (e2 : mg x0 = some (.ref C)) (T : OexC K C)
    (e3 : PySem.W.findIn K (.ref C) "__init__" = some (some (.ref fI))) (e4 : PySem.W.typeIn K (.ref fI) = some (.type "function")) (n1 : PySem.W.findIn K (.ref C) f = some none)
    (FF : FunD K "__init__" qual (defArgs st) (defBody st) (defScope st) [] [] fI fd) (S : FnScope [s, x] [s, x] (defScope st)) (hb : defBody st = [.Assign [.Attribute (.Name s p1) f p2] (.Name x p3) p4]) (b : Binds K fd [s, x] [])
    (hp : ∀ (cdv : Value) (A : Around) (outer : List Env) (s' : Shared) (H : Hp) (E : XK), let X := cxOf (L2.CX P w) P w K mg base [s, x] qual (defScope st) fI cdv A outer s' H E
      PE X (.Name s p1) (tVar 0) ∧ PE X (.Name x p3) (tVar 1) ∧ swapsWith (.Name x p3) (some (.Attribute (.Name s p1) f p2)) p4.line X.env = pure false) :
    CalX P w K mg base cl x0 [f] := by
  refine ⟨C, fI, fd, [s, x], e1, e2, T, e3, e4, FF.ok S ?_ ?_, b⟩
  · rintro vs H Q E ⟨a, ys, rfl, hl, _⟩
    show ys.length + 1 = 2
    rw [hl]; rfl
  · intro cdv A outer s' H vs Q E hr h
    obtain ⟨a, ys, rfl, hl, ea, q⟩ := h
    match ys, hl with
    | [y], _ =>
      obtain ⟨q1, q2, q3⟩ := hp cdv A outer s' H E
      obtain ⟨t, ht, h⟩ := pss_init1 (X := cxOf (L2.CX P w) P w K mg base [s, x] qual (defScope st) fI cdv A outer s' H E) (f := f) T n1 q1 q2 q3
      rw [hb]
      exact ⟨t, ht, h a y H _ _ rfl rfl ea fun dx hn ne => q dx hn ne⟩
theorem calX2 {P : Program} {w : World} {K : PySem.W.Frag} {mg : Str → Option Value} {base : Heap} {cl : Cw} {qual x0 : Str} {st : Stmt} {C fI : Addr} {fd : FuncData} {f f2 x x2 s : Str} {p1 p2 p3 p4 q1 q2 q3 q4 : Pos} (e1 : cl x0 = some C) (e2 : mg x0 = some (.ref C)) (T : OexC K C)
    (e3 : PySem.W.findIn K (.ref C) "__init__" = some (some (.ref fI))) (e4 : PySem.W.typeIn K (.ref fI) = some (.type "function")) (n1 : PySem.W.findIn K (.ref C) f = some none) (n2 : PySem.W.findIn K (.ref C) f2 = some none)
    (FF : FunD K "__init__" qual (defArgs st) (defBody st) (defScope st) [] [] fI fd) (S : FnScope [s, x, x2] [s, x, x2] (defScope st)) (hb : defBody st = [.Assign [.Attribute (.Name s p1) f p2] (.Name x p3) p4, .Assign [.Attribute (.Name s q1) f2 q2] (.Name x2 q3) q4]) (b : Binds K fd [s, x, x2] [])
    (hp : ∀ (cdv : Value) (A : Around) (outer : List Env) (s' : Shared) (H : Hp) (E : XK), let X := cxOf (L2.CX P w) P w K mg base [s, x, x2] qual (defScope st) fI cdv A outer s' H E
      (PE X (.Name s p1) (tVar 0) ∧ PE X (.Name x p3) (tVar 1) ∧ swapsWith (.Name x p3) (some (.Attribute (.Name s p1) f p2)) p4.line X.env = pure false) ∧ PE X (.Name s q1) (tVar 0) ∧ PE X (.Name x2 q3) (tVar 2) ∧ swapsWith (.Name x2 q3) (some (.Attribute (.Name s q1) f2 q2)) q4.line X.env = pure false) :
    CalX P w K mg base cl x0 [f, f2] := by
  refine ⟨C, fI, fd, [s, x, x2], e1, e2, T, e3, e4, FF.ok S ?_ ?_, b⟩
  · rintro vs H Q E ⟨a, ys, rfl, hl, _⟩
    show ys.length + 1 = 3
    rw [hl]; rfl
  · intro cdv A outer s' H vs Q E hr h
    obtain ⟨a, ys, rfl, hl, ea, q⟩ := h
    match ys, hl with
    | [y, y2], _ =>
      obtain ⟨⟨q1, q2, q3⟩, q4, q5, q6⟩ := hp cdv A outer s' H E
      obtain ⟨t, ht, h⟩ := pss_init2 (X := cxOf (L2.CX P w) P w K mg base [s, x, x2] qual (defScope st) fI cdv A outer s' H E) (f := f) (f2 := f2) T n1 n2 q1 q4 q2 q5 q3 q6
      rw [hb]
      exact ⟨t, ht, h a y y2 H _ _ rfl rfl rfl ea fun dx hn ne => q dx hn ne⟩
/-! ### raise C(e, ..) -/
def sRaiseF (x : Str) (ns : List Str) (fs : DA) : DS := fun δ => match fs δ with
  | .ok as δ1 => (match avs as with
    | some ds => if ds.length = ns.length then .ex x ns ds δ1 else .st
    | none => .st)
  | .ex c n d δ1 => .ex c n d δ1
  | .st => .st
theorem lookup_mem {α : Type} : ∀ {l : List (Str × α)} {n : Str} {v : α}, (l.map (·.1)).Nodup → (n, v) ∈ l → l.lookup n = some v
  | (m, u) :: l, n, v, nd, h => by
    rw [List.map_cons, List.nodup_cons] at nd
    rw [List.lookup_cons]
    rcases List.mem_cons.mp h with e | h2
    · cases e
      rw [beq_self_eq_true]
    · have ne : (n == m) = false := by
        rw [beq_eq_false_iff_ne]
        intro z
        subst z
        exact nd.1 (List.mem_map.mpr ⟨_, h2, rfl⟩)
      rw [ne]
      exact lookup_mem nd.2 h2
section
variable {c : Cf} {X : Cx} {x : Str} {e : Expr} {es : List Expr} {fs : DA} {p p' pos : Pos} {ns : List Str}
end
/-! ### try .. except C as n -/
def noX (δ : DEnv) : Bool := δ.all fun s => match s with
  | .exc _ _ _ => false
  | _ => true
def freeS (i : Nat) (δ : DEnv) : Bool := match δ[i]? with
  | some .un => true
  | some (.val _) => true
  | some (.exc _ _ _) => true
  | _ => false
def dropX (i : Nat) (k : DEnv → SO) (δ : DEnv) : SO := if (freeS i δ && noX (δ.set i .un)) = true then k (δ.set i .un) else .st
def slX (c : Str) (ns : List Str) (ds : List D) : Sl := .exc c ns ds
section
variable {K : PySem.W.Frag} {cl : Cw} {hx hx' : Addr × Option Addr} {R : List (Nat × Addr)} {H0 G0 H G : Hp} {σ : L2.St} {δ : DEnv}
theorem noX_at (h : noX δ = true) {i : Nat} {s : Sl} (e : δ[i]? = some s) : (∀ c ns ds, s ≠ .exc c ns ds) := fun c ns ds z => by
  subst z
  have := List.all_eq_true.mp h _ (List.mem_of_getElem? e)
  cases this
theorem Ok.rehx (k : Ok K cl hx R H0 G0 H G σ δ) (h : noX δ = true) : Ok K cl hx' R H0 G0 H G σ δ := ⟨k.len, k.sub, k.ext, k.new, k.kept, k.rfree, fun i s x e1 e2 => (by
  have q := k.sl i s x e1 e2
  have n := noX_at h e1
  cases s with
  | un => trivial
  | val d => exact q
  | own d => exact q
  | rf d => exact q
  | exc c ns ds => exact absurd rfl (n c ns ds)), k.sep, k.refs, k.rfs⟩
theorem freeS_at {i : Nat} (h : freeS i δ = true) : ∃ s, δ[i]? = some s ∧ isO s = false ∧ ∀ d, s ≠ .rf d := by
  unfold freeS at h
  cases e : δ[i]? with
  | none => rw [e] at h; cases h
  | some s =>
    rw [e] at h
    cases s with
    | un => exact ⟨_, rfl, rfl, fun d z => by cases z⟩
    | val d => exact ⟨_, rfl, rfl, fun d z => by cases z⟩
    | exc c ns ds => exact ⟨_, rfl, rfl, fun d z => by cases z⟩
    | own d => cases h
    | rf d => cases h
/-- a slot let go -/
theorem Ok.drop (k : Ok K cl hx R H0 G0 H G σ δ) {i : Nat} (hf : freeS i δ = true) : Ok K cl hx R H0 G0 H G (σ.set i none) (δ.set i .un) := by
  obtain ⟨s0, e0, o0, hn⟩ := freeS_at hf
  have hi : i < δ.length := (List.getElem?_eq_some_iff.mp e0).1
  have hi2 : i < σ.length := by rw [k.len]; exact hi
  have neR : ∀ p ∈ R, p.1 ≠ i := fun p hp z => by
    obtain ⟨d, e1, _⟩ := k.refs p hp
    rw [z, e0] at e1
    cases e1
    exact hn d rfl
  refine ⟨by rw [List.length_set, List.length_set]; exact k.len, k.sub, k.ext, k.new, k.kept, k.rfree, fun j t x e1 e2 => ?_, fun j l t u a e1 e2 i1 i2 s1 s2 => ?_, fun p hp => ?_, fun j d e => ?_⟩
  · by_cases hj : j = i
    · subst hj
      rw [List.getElem?_set_self hi] at e1
      cases e1
      trivial
    · rw [List.getElem?_set_ne (Ne.symm hj)] at e1 e2
      exact k.sl j t x e1 e2
  · have hj : j ≠ i := fun z => by
      subst z
      rw [List.getElem?_set_self hi] at e1
      cases e1; cases i1
    have hl : l ≠ i := fun z => by
      subst z
      rw [List.getElem?_set_self hi] at e2
      cases e2; cases i2
    rw [List.getElem?_set_ne (Ne.symm hj)] at e1 s1
    rw [List.getElem?_set_ne (Ne.symm hl)] at e2 s2
    exact k.sep j l t u a e1 e2 i1 i2 s1 s2
  · obtain ⟨d, e1, e2⟩ := k.refs p hp
    exact ⟨d, by rw [List.getElem?_set_ne (Ne.symm (neR p hp))]; exact e1, by rw [List.getElem?_set_ne (Ne.symm (neR p hp))]; exact e2⟩
  · by_cases hj : j = i
    · subst hj
      rw [List.getElem?_set_self hi] at e
      cases e
    · rw [List.getElem?_set_ne (Ne.symm hj)] at e
      exact k.rfs j d e
theorem dropX_st {i : Nat} {kk : DEnv → SO} {δ : DEnv} (h : dropX i kk δ ≠ .st) : freeS i δ = true ∧ noX (δ.set i .un) = true ∧ dropX i kk δ = kk (δ.set i .un) := by
  unfold dropX at h ⊢
  by_cases q : (freeS i δ && noX (δ.set i .un)) = true
  · rw [if_pos q]
    obtain ⟨q1, q2⟩ := Bool.and_eq_true_iff.mp q
    exact ⟨q1, q2, rfl⟩
  · rw [if_neg q] at h; exact absurd rfl h
end
section
variable {c : Cf} {X : Cx} {pos np pos' : Pos}
theorem spost_ne {f : Fx} {W : WX} {G : Hp} {o : SO} {D' : Ends} (h : SPost f W G o D') : o ≠ .st := fun z => by rw [z] at h; exact h
end
/-! ### n.f in the suite -/
def dXf (i : Nat) (f : Str) : DE := fun δ => match δ[i]? with
  | some (.exc _ ns ds) => (match (ns.zip ds).lookup f with
    | some d => .ok d δ
    | none => .st)
  | _ => .st
section
variable {cl : Cw} {X : Cx} {i : Nat} {f : Str} {a : Addr} {oe : Obj} {cls : Value} {d : Option Addr} {pn : List (Addr × Obj)} {e : Expr} {pos : Pos} {W : WX}
end
end DL

set_option maxRecDepth 100000
set_option maxHeartbeats 4000000
namespace DL
open PySem PySem.Spec PyProof.Rows L2
/-! ### range(n) as a value, range(a, b, -1) walked -/
section
variable {X : Cx}
end
section
variable {K : PySem.W.Frag} {cl : Cw}
end
section
variable {c : Cf} {X : Cx} {e : Expr} {es : List Expr} {fs : DA} {p pos : Pos}
end
/-! ### range(a, b, -1) -/
def rngDn (i j : Int) : List D := (List.range (i - j).toNat).map fun k => D.int (i - (k : Nat))
def dRgDn (fs : DA) : DI := fun δ => (fs δ).bind fun as δ1 => match avs as with
  | some [.int i, .int j, .int k] => if k = -1 ∧ (-(2 ^ 62) ≤ i ∧ i < 2 ^ 62 ∧ -(2 ^ 62) ≤ j ∧ j < 2 ^ 62) then .ok (rngDn i j) δ1 else .st
  | _ => .st
section
variable {c : Cf} {X : Cx} {tg : Expr} {fs : DA} {pos : Pos}
end
/-! ### reckoning -/
def xrK (x : Str) (ns : List Str) : EO (List AV) → SO
  | .ok as δ1 => (match avs as with
    | some ds => if ds.length = ns.length then .ex x ns ds δ1 else .st
    | none => .st)
  | .ex c n d δ1 => .ex c n d δ1
  | .st => .st
theorem a_raiseF (x : Str) (ns : List Str) (fs : DA) (δ : DEnv) : sRaiseF x ns fs δ = xrK x ns (fs δ) := rfl
theorem a_xr1 (x f : Str) (a : D) (δ : DEnv) : xrK x [f] (.ok [.v a] δ) = .ex x [f] [a] δ := rfl
theorem a_xr2 (x f g : Str) (a b : D) (δ : DEnv) : xrK x [f, g] (.ok [.v a, .v b] δ) = .ex x [f, g] [a, b] δ := rfl
def rdK : EO (List AV) → EO (List D)
  | .ok as δ1 => (match avs as with
    | some [.int i, .int j, .int k] => if k = -1 ∧ (-(2 ^ 62) ≤ i ∧ i < 2 ^ 62 ∧ -(2 ^ 62) ≤ j ∧ j < 2 ^ 62) then .ok (rngDn i j) δ1 else .st
    | _ => .st)
  | .ex c n d δ1 => .ex c n d δ1
  | .st => .st
theorem a_rgDn (fs : DA) (δ : DEnv) : dRgDn fs δ = rdK (fs δ) := by unfold dRgDn rdK; cases fs δ <;> rfl
def xfK (f : Str) (δ : DEnv) : Option Sl → EO D
  | some (.exc _ ns ds) => (match (ns.zip ds).lookup f with
    | some d => .ok d δ
    | none => .st)
  | _ => .st
theorem a_xf (i : Nat) (f : Str) (δ : DEnv) : dXf i f δ = xfK f δ δ[i]? := by unfold dXf xfK; cases δ[i]? with | none => rfl | some s => cases s <;> rfl
section
variable {c : Cf} {X : Cx}
end
def xinB (K : PySem.W.Frag) (C : Addr) : Bool := He.eqO (PySem.W.findIn K (.ref C) "__init__") (some (some (.ref (He.ma K C "__init__"))))
theorem xin_ok {K : PySem.W.Frag} {C : Addr} (h : xinB K C = true) : PySem.W.findIn K (.ref C) "__init__" = some (some (.ref (He.ma K C "__init__"))) := He.eqO_ok h
def xtyB (K : PySem.W.Frag) (C : Addr) : Bool := decide (PySem.W.typeIn K (.ref (He.ma K C "__init__")) = some (.type "function"))
theorem xty_ok {K : PySem.W.Frag} {C : Addr} (h : xtyB K C = true) : PySem.W.typeIn K (.ref (He.ma K C "__init__")) = some (.type "function") := of_decide_eq_true h
end DL

set_option maxRecDepth 100000
set_option maxHeartbeats 4000000
namespace DL
open PySem PySem.Spec PyProof.Rows L2
/-! ### sorted(d), list(d) of a dict of one's own -/
section
variable {P : Program} {w : World} {A : Around} {E : Value → Shared → Prop} {s : Shared}
end
section
variable {X : Cx}
end
def keysI : List Key → Option (List Int)
  | [] => some []
  | .inl i :: r => (keysI r).map (i :: ·)
  | .inr _ :: _ => none
def dSortK (j : Nat) : DE := fun δ => match look δ j with
  | some (.dct ks _) => (match keysI ks with
    | some ns => .ok (.lst ((sortI ns).map D.int)) δ
    | none => .st)
  | _ => .st
def dListK (j : Nat) : DE := fun δ => match look δ j with
  | some (.dct ks _) => .ok (.lst (ks.map keyD)) δ
  | _ => .st
section
variable {c : Cf} {X : Cx} {e : Expr} {te : TE} {p pos : Pos} {j : Nat}
end
def skK (δ : DEnv) : Option D → EO D
  | some (.dct ks _) => (match keysI ks with
    | some ns => .ok (.lst ((sortI ns).map D.int)) δ
    | none => .st)
  | _ => .st
def lsK (δ : DEnv) : Option D → EO D
  | some (.dct ks _) => .ok (.lst (ks.map keyD)) δ
  | _ => .st
theorem a_sortK (j : Nat) (δ : DEnv) : dSortK j δ = skK δ (look δ j) := by
  unfold dSortK skK
  cases look δ j with
  | none => rfl
  | some d => cases d <;> rfl
theorem a_listK (j : Nat) (δ : DEnv) : dListK j δ = lsK δ (look δ j) := by
  unfold dListK lsK
  cases look δ j with
  | none => rfl
  | some d => cases d <;> rfl
theorem a_lsK (δ : DEnv) (ks : List Key) (vs : List D) : lsK δ (some (.dct ks vs)) = .ok (.lst (ks.map keyD)) δ := rfl
end DL

set_option maxRecDepth 100000
set_option maxHeartbeats 4000000
namespace DL
open PySem PySem.Spec PyProof.Rows L2
/-! ### t.index(x), t a tuple that has no dict of its own -/
section
variable {c : Cf} {X : Cx} {o e : Expr} {to te : TE} {apos cpos : Pos} {fo fe : DE}
end
def txtsD : List D → Option (List Str)
  | [] => some []
  | .str x :: r => (txtsD r).map (x :: ·)
  | _ :: _ => none
def idxS (z : Str) : List Str → Option Nat
  | [] => none
  | y :: r => if y = z then some 0 else (idxS z r).map (· + 1)
def dTix (fo fe : DE) : DE := fun δ => (fo δ).bind fun x δ1 => match x with
  | .tpn ds => (fe δ1).bind fun y δ2 => (match y with
    | .str z => (match (txtsD ds).bind (idxS z) with
      | some j => .ok (.int (j : Nat)) δ2
      | none => .st)
    | _ => .st)
  | _ => .st
section
variable {c : Cf} {X : Cx} {o e : Expr} {apos cpos : Pos} {fo fe : DE}
end
def tixK (fe : DE) : EO D → EO D
  | .ok x δ1 => (match x with
    | .tpn ds => (fe δ1).bind fun y δ2 => (match y with
      | .str z => (match (txtsD ds).bind (idxS z) with
        | some j => .ok (.int (j : Nat)) δ2
        | none => .st)
      | _ => .st)
    | _ => .st)
  | .ex c n d δ => .ex c n d δ
  | .st => .st
def tixK2 (ds : List D) : EO D → EO D
  | .ok (.str z) δ2 => (match (txtsD ds).bind (idxS z) with
    | some j => .ok (.int (j : Nat)) δ2
    | none => .st)
  | .ok _ _ => .st
  | .ex c n d δ => .ex c n d δ
  | .st => .st
theorem a_tix (fo fe : DE) (δ : DEnv) : dTix fo fe δ = tixK fe (fo δ) := by unfold dTix tixK; cases fo δ <;> rfl
theorem a_tixK (fe : DE) (ds : List D) (δ : DEnv) : tixK fe (.ok (.tpn ds) δ) = tixK2 ds (fe δ) := by
  show ((fe δ).bind _) = _
  unfold tixK2
  cases fe δ with
  | ok y δ2 => cases y <;> rfl
  | ex c n d δ => rfl
  | st => rfl
end DL

set_option maxRecDepth 100000
set_option maxHeartbeats 4000000
namespace DL
open PySem PySem.Spec PyProof.Rows L2
/-! ### isinstance(n, C) in the suite of except .. as n, n without fields -/
def dIsX (i : Nat) : DE := fun δ => match δ[i]? with
  | some (.exc _ [] _) => .ok (.bl true) δ
  | _ => .st
section
variable {cl : Cw} {X : Cx} {i : Nat} {a : Addr} {oe : Obj} {cls : Value} {d : Option Addr} {pn : List (Addr × Obj)} {e : Expr} {p pos pt : Pos} {W : WX} {b : Str}
end
def isxK (δ : DEnv) : Option Sl → EO D
  | some (.exc _ [] _) => .ok (.bl true) δ
  | _ => .st
theorem a_isX (i : Nat) (δ : DEnv) : dIsX i δ = isxK δ δ[i]? := by
  unfold dIsX isxK
  cases δ[i]? with
  | none => rfl
  | some s =>
    cases s with
    | exc c ns ds => cases ns <;> rfl
    | _ => rfl
theorem a_isxK (c : Str) (ds : List D) (δ : DEnv) : isxK δ (some (.exc c [] ds)) = .ok (.bl true) δ := rfl
end DL

set_option maxRecDepth 100000
set_option maxHeartbeats 4000000
namespace DL
open PySem PySem.Spec PyProof.Rows L2
/-! ### x in l, l[lo:hi] of a list of one's own that stays one's own -/
def dBinV (g : D → D → Option D) (fa : DE) (j : Nat) : DE := fun δ => (fa δ).bind fun x δ1 => match look δ1 j with
  | some (.lst ds) => (match g x (.lst ds) with
    | some (.bl b) => .ok (.bl b) δ1
    | _ => .st)
  | _ => .st
section
variable {c : Cf} {X : Cx} {a o : Expr} {fa : DE} {pos : Pos} {j : Nat}
end
def bvK (g : D → D → Option D) (j : Nat) : EO D → EO D
  | .ok x δ1 => (match look δ1 j with
    | some (.lst ds) => (match g x (.lst ds) with
      | some (.bl b) => .ok (.bl b) δ1
      | _ => .st)
    | _ => .st)
  | .ex c n d δ => .ex c n d δ
  | .st => .st
theorem a_binV (g : D → D → Option D) (fa : DE) (j : Nat) (δ : DEnv) : dBinV g fa j δ = bvK g j (fa δ) := by unfold dBinV bvK; cases fa δ <;> rfl
end DL

set_option maxRecDepth 100000
set_option maxHeartbeats 4000000
namespace DL
open PySem PySem.Spec PyProof.Rows L2
/-! ### sorted(t), t a tuple of texts -/
section
variable {X : Cx}
end
section
variable {K : PySem.W.Frag} {cl : Cw}
end
section
variable {c : Cf} {X : Cx} {e : Expr} {es : List Expr} {fs : DA} {p pos : Pos}
end
end DL

set_option maxRecDepth 100000
set_option maxHeartbeats 4000000
namespace DL
open PySem PySem.Spec PyProof.Rows L2
/-! ### d.get(k, x) -/
def getV : List Key → List D → Key → D → D
  | q :: ks, d :: ds, k, y => if q = k then d else getV ks ds k y
  | _, _, _, y => y
def getO (x y : D) : Option D → Option D
  | some (.dct ks vs) => (keyO x).map fun k => getV ks vs k y
  | _ => none
def dGet2 (j : Nat) (fa fb : DE) : DE := fun δ => match look δ j with
  | some (.dct _ _) => (fa δ).bind fun x δ1 => (fb δ1).bind fun y δ2 => (match getO x y (look δ2 j) with
    | some z => .ok z δ2
    | none => .st)
  | _ => .st
section
variable {c : Cf} {X : Cx} {p pos : Pos} {o e f : Expr} {fa fb : DE} {j : Nat} {apos : Pos}
end
/-! ### reckoning -/
def g2K (j : Nat) (fa fb : DE) (δ : DEnv) : Option D → EO D
  | some (.dct _ _) => (fa δ).bind fun x δ1 => (fb δ1).bind fun y δ2 => oE (getO x y (look δ2 j)) δ2
  | _ => .st
theorem a_get2 (j : Nat) (fa fb : DE) (δ : DEnv) : dGet2 j fa fb δ = g2K j fa fb δ (look δ j) := by
  unfold dGet2 g2K
  cases look δ j with
  | none => rfl
  | some d =>
    cases d with
    | dct ks vs =>
      have e : ∀ x y δ2, (match getO x y (look δ2 j) with | some z => EO.ok z δ2 | none => .st) = oE (getO x y (look δ2 j)) δ2 := fun x y δ2 => by cases getO x y (look δ2 j) <;> rfl
      simp only [e]
    | _ => rfl
end DL

set_option maxRecDepth 100000
set_option maxHeartbeats 4000000
namespace DL
open PySem PySem.Spec PyProof.Rows L2
/-! ### min of a list of texts -/
section
variable {X : Cx}
end
section
variable {K : PySem.W.Frag} {cl : Cw}
end
section
variable {c : Cf} {X : Cx} {e : Expr} {es : List Expr} {fs : DA} {p pos : Pos}
end
end DL

set_option maxRecDepth 100000
set_option maxHeartbeats 4000000
namespace DL
open PySem PySem.Spec PyProof.Rows L2
/-! ### d[k], read -/
def getS : List Key → List D → Key → Option D
  | q :: ks, d :: ds, k => if q = k then some d else getS ks ds k
  | _, _, _ => none
def ixO (x : D) : Option D → Option D
  | some (.dct ks vs) => (keyO x).bind fun k => getS ks vs k
  | _ => none
def dIxK (j : Nat) (fb : DE) : DE := fun δ => match look δ j with
  | some (.dct _ _) => (fb δ).bind fun x δ1 => (match ixO x (look δ1 j) with
    | some z => .ok z δ1
    | none => .st)
  | _ => .st
section
variable {c : Cf} {X : Cx} {p pos : Pos} {a b : Expr} {fb : DE} {j : Nat}
end
/-! ### reckoning -/
def ixkK (j : Nat) (fb : DE) (δ : DEnv) : Option D → EO D
  | some (.dct _ _) => ixkE j (fb δ)
  | _ => .st
where ixkE (j : Nat) : EO D → EO D
  | .ok x δ => oE (ixO x (look δ j)) δ
  | .ex c n d δ => .ex c n d δ
  | .st => .st
theorem a_ixk (j : Nat) (fb : DE) (δ : DEnv) : dIxK j fb δ = ixkK j fb δ (look δ j) := by
  unfold dIxK ixkK
  cases look δ j with
  | none => rfl
  | some d =>
    cases d with
    | dct ks vs =>
      show ((fb δ).bind fun x δ1 => (match ixO x (look δ1 j) with | some z => EO.ok z δ1 | none => .st)) = ixkK.ixkE j (fb δ)
      cases fb δ with
      | ok x δ1 =>
        show (match ixO x (look δ1 j) with | some z => EO.ok z δ1 | none => .st) = oE (ixO x (look δ1 j)) δ1
        cases ixO x (look δ1 j) <;> rfl
      | ex c n d δ => rfl
      | st => rfl
    | _ => rfl
theorem a_ixkE (j : Nat) (x : D) (δ : DEnv) : ixkK.ixkE j (.ok x δ) = oE (ixO x (look δ j)) δ := rfl
theorem a_ixkK (j : Nat) (fb : DE) (δ : DEnv) (ks : List Key) (ds : List D) : ixkK j fb δ (some (.dct ks ds)) = ixkK.ixkE j (fb δ) := rfl
theorem a_g2K (j : Nat) (fa fb : DE) (δ : DEnv) (ks : List Key) (ds : List D) : g2K j fa fb δ (some (.dct ks ds)) = (fa δ).bind fun x δ1 => (fb δ1).bind fun y δ2 => oE (getO x y (look δ2 j)) δ2 := rfl
end DL

set_option maxRecDepth 100000
set_option maxHeartbeats 4000000
namespace DL
open PySem PySem.Spec PyProof.Rows L2
/-! ### t[::-1], t a tuple -/
section
variable {prog : Program} {w : World} {A : Around} {E : Value → Shared → Prop} {s : Shared}
end
end DL

set_option maxRecDepth 100000
set_option maxHeartbeats 4000000
namespace DL
open PySem PySem.Spec PyProof.Rows L2
/-! ### t[::-1] of a tuple, as a value -/
theorem RepL.reverse {K : PySem.W.Frag} {cl : Cw} {G : Hp} : ∀ {ds : List D} {vs : List V}, RepL K cl G vs ds → RepL K cl G vs.reverse ds.reverse
  | [], _, .nil => .nil
  | d :: ds, _, .cons r t => by
    rw [List.reverse_cons, List.reverse_cons]
    exact (RepL.reverse t).append (.cons r .nil)
section
variable {c : Cf} {X : Cx} {e : Expr} {fe : DE} {pos p1 p2 p3 : Pos} {k : Nat}
/-! ### x.pop() of a list of one's own -/
end
/-! ### d.get(k) of a dict of the module -/
section
variable {X : Cx} {o e : Expr} {apos cpos : Pos} {td ty : TE}
end
section
variable {c : Cf} {X : Cx} {x : Str} {e : Expr} {fe : DE} {p ap cp : Pos} {kvs : List (Str × Int)}
end
/-! ### a call whose last argument is a new empty list -/
section
variable {c : Cf} {X : Cx} {e : Expr} {es : List Expr} {fe : DE} {fs : DA} {p pos : Pos} {x : Str} {k : Nat}
end
end DL

set_option maxRecDepth 100000
set_option maxHeartbeats 4000000
namespace DL
open PySem PySem.Spec PyProof.Rows L2
/-! ### a hook that looks at the module's dicts, too -/
abbrev AlY : Type := AlZ × List (Option (List (Option (Str × Int))))
def obsY (fa : List He.Fa) (fn : List He5.DefA) (ex : List (PySem.W.Frag → Bool)) (ts : List He.Tab) (K : PySem.W.Frag) : AlY := (obsZ fa fn ex K, ts.map fun t => He.dicW K (t.1 K))
def valY (fn : List He5.DefA) (ts : List He.Tab) (w : World) : AlY := ((true, He5.valA fn), ts.map fun t => some (He.keysIn w.params t.2))
def SaysY (fa : List He.Fa) (fn : List He5.DefA) (ex : List (PySem.W.Frag → Bool)) (ts : List He.Tab) (w : World) (K : PySem.W.Frag) : Prop := obsY fa fn ex ts K = valY fn ts w
section
variable {fa : List He.Fa} {fn : List He5.DefA} {ex : List (PySem.W.Frag → Bool)} {ts : List He.Tab} {w : World} {K : PySem.W.Frag}
theorem SaysY.z (c : SaysY fa fn ex ts w K) : SaysZ fa fn ex K := congrArg (fun z : AlY => z.1) c
theorem SaysY.tab (c : SaysY fa fn ex ts w K) (i : Nat) {t : He.Tab} (h : ts[i]? = some t := by rfl) : ∃ es n, KDict K w (t.1 K) es n := by
  have e : ts.map (fun t => He.dicW K (t.1 K)) = ts.map fun t => some (He.keysIn w.params t.2) := congrArg (fun z : AlY => z.2) c
  have e2 : (ts.map fun t => He.dicW K (t.1 K))[i]? = (ts.map fun t => some (He.keysIn w.params t.2))[i]? := by rw [e]
  rw [List.getElem?_map, List.getElem?_map, h] at e2
  exact He.dicW_ok (Option.some.inj e2)
end
/-! ### reckoning -/
end DL

set_option maxRecDepth 100000
set_option maxHeartbeats 4000000
namespace DL
open PySem PySem.Spec PyProof.Rows L2
/-! ### x[i] op= e -/
section
variable {c : Cf} {X : Cx} {o i e : Expr} {j : Nat} {fe fi : DE} {tp pos : Pos} {op : Operator} {r : R2} {g : D → D → Option D}
end
end DL

set_option maxRecDepth 100000
set_option maxHeartbeats 4000000
namespace DL
open PySem PySem.Spec PyProof.Rows L2
/-! ### dict(zip(a, b)) of two tuples: a zip whose last tuple is still held -/
section
variable {prog : Program} {w : World} {A : Around} {E : Value → Shared → Prop} {s : Shared} {z TI TO T i1 i2 : Addr} {fp1 fp2 : List Addr} {n1 n2 i : Nat} {P1 P2 : Nat → Value → Prop} {St1 St2 : Nat → Heap → Prop} {f : Bool} {oT : Obj}
end
end DL

set_option maxRecDepth 100000
set_option maxHeartbeats 4000000
namespace DL
open PySem PySem.Spec PyProof.Rows L2
section
variable {prog : Program} {w : World}
end
end DL

set_option maxRecDepth 100000
set_option maxHeartbeats 4000000
namespace DL
open PySem PySem.Spec PyProof.Rows L2
/-! ### dict(zip(a, b)) of two tuples -/
section
variable {X : Cx} {e e2 : Expr} {t : TA} {p p2 q pos : Pos}
end
end DL

set_option maxRecDepth 100000
set_option maxHeartbeats 4000000
namespace DL
open PySem PySem.Spec PyProof.Rows L2
/-! ### dict(zip(a, b)) by deep values -/
section
variable {c : Cf} {X : Cx} {e e2 : Expr} {fs : DA} {p p2 q pos : Pos}
end
end DL

set_option maxRecDepth 100000
set_option maxHeartbeats 4000000
namespace DL
open PySem PySem.Spec PyProof.Rows L2
/-! ### l.index(i), l a list of ints -/
section
variable {c : Cf} {X : Cx} {o e : Expr} {apos cpos : Pos} {fo fe : DE}
end
/-! ### reckoning -/
end DL

set_option maxRecDepth 100000
set_option maxHeartbeats 4000000
namespace DL
open PySem PySem.Spec PyProof.Rows L2
/-! ### x, y = a, b -/
section
variable {c : Cf} {X : Cx} {i j l : Nat} {x y z : Str} {a b e : Expr} {fs : DA} {px py pz pt pos : Pos} {kt k2 : Nat} {pt2 : Pos}
end
/-! ### reckoning -/
end DL

set_option maxRecDepth 100000
set_option maxHeartbeats 4000000
namespace DL
open PySem PySem.Spec PyProof.Rows L2
/-! ### a thing of one's own, read as a value ahead of a statement -/
section
variable {c : Cf} {X : Cx} {i : Nat} {st : Stmt} {F : DS}
end
end DL

set_option maxRecDepth 100000
set_option maxHeartbeats 4000000
namespace DL
open PySem PySem.Spec PyProof.Rows L2
/-! ### a hook that looks at written addresses (what is reached from the names need not be reckoned by the kernel) -/
def obsLG (as : List Addr) (fa : List He.Fa) (fn : List He5.DefA) (ex : List (PySem.W.Frag → Bool)) (ts : List He.Tab) (g : Addr → Option Obj) : AlY := obsY fa fn ex ts (He.frG g as)
def hookL (as : List Addr) (fa : List He.Fa) (fn : List He5.DefA) (ex : List (PySem.W.Frag → Bool)) (ts : List He.Tab) : PySem.W.Hook where
  α := AlY
  obs s := obsLG as fa fn ex ts s.heap.get?
  val w := valY fn ts w
  says w h := ∃ K : PySem.W.Frag, K.In h ∧ SaysY fa fn ex ts w K
  of _ _ e := ⟨_, He.frG_in, e⟩
  keeps := fun _ _ _ ⟨K, hK, c⟩ k => ⟨K, PySem.W.Frag.In.keeps hK k, c⟩
theorem obsLG_eq {as : List Addr} {fa : List He.Fa} {fn : List He5.DefA} {ex : List (PySem.W.Frag → Bool)} {ts : List He.Tab} {g : Addr → Option Obj} {s : Shared} (h : ∀ a, g a = s.heap.get? a) : obsLG as fa fn ex ts g = (hookL as fa fn ex ts).obs s := congrArg (obsLG as fa fn ex ts) (funext h)
end DL

set_option maxRecDepth 100000
set_option maxHeartbeats 4000000
namespace DL
open PySem PySem.Spec PyProof.Rows L2
/-! ### list(range(a, b)) -/
section
variable {c : Cf} {X : Cx} {fa fb : DE} {p pos : Pos}
end
end DL

set_option maxRecDepth 100000
set_option maxHeartbeats 4000000
namespace DL
open PySem PySem.Spec PyProof.Rows L2
/-! ### list(zip(a, b)) of two tuples: a list of new pairs -/
/-- the addresses as hold pairs that P tells, in order; they lie above lo and rise -/
structure ZlG (P : Nat → Value → Value → Prop) (lo : Addr) (h : Heap) (as : List Addr) : Prop where
  rise : as.Pairwise (· < ·)
  above : ∀ a ∈ as, lo < a
  pairs : ∀ (j : Nat) (a : Addr), as[j]? = some a → ∃ x y, P j x y ∧ IsTupOf2 h a x y
theorem ZlG.there {P : Nat → Value → Value → Prop} {lo : Addr} {h : Heap} {as : List Addr} (g : ZlG P lo h as) {a : Addr} (ha : a ∈ as) : a < h.objs.size := by
  obtain ⟨j, hj⟩ := List.mem_iff_getElem?.mp ha
  obtain ⟨_, _, _, e⟩ := g.pairs j a hj
  exact Heap.lt_size e
/-- what turns out new pairs, while the list S grows -/
structure NSrc (prog : Program) (w : World) (A : Around) (I S : Addr) (wr : List Addr) (n : Nat) (P : Nat → Value → Value → Prop) (St : Nat → Heap → Prop) : Prop where
  low : ∀ b ∈ wr, b < S
  frame : ∀ i h h', St i h → (∀ b o, b ≠ S → h.get? b = some o → h'.get? b = some o) → St i h'
  item : ∀ i (s : Shared) (Q : Option Value → Shared → Prop) (E : Value → Shared → Prop), i < n → St i s.heap → S < s.heap.objs.size →
    (∀ k v h' tk, P i k v → IsTupOf2 h' s.heap.objs.size k v → St (i + 1) h' → (∀ b o, b ∉ wr → s.heap.get? b = some o → h'.get? b = some o) → Q (some (.ref s.heap.objs.size)) { s with heap := h', toks := tk }) → wpAny (model prog w) A (pyNext (.ref I)) Q E s
  done : ∀ (s : Shared) (Q : Option Value → Shared → Prop) (E : Value → Shared → Prop), St n s.heap →
    (∀ h' tk, (∀ b o, b ∉ wr → s.heap.get? b = some o → h'.get? b = some o) → Q none { s with heap := h', toks := tk }) → wpAny (model prog w) A (pyNext (.ref I)) Q E s
section
variable {prog : Program} {w : World} {A : Around} {s : Shared} {R : Result → Shared → Prop} {I S : Addr} {wr : List Addr} {n : Nat} {P : Nat → Value → Value → Prop} {St : Nat → Heap → Prop}
end
section
variable {prog : Program} {w : World} {A : Around} {E : Value → Shared → Prop} {s : Shared}
section
variable {R : Result → Shared → Prop} {z TI TO i1 i2 l1 l2 Sl : Addr} {xs ys : Array Value}
end
end
/-! ### the pairs and the list tracked -/
section
variable {X : Cx}
end
section
variable {X : Cx} {e e2 : Expr} {t : TA} {p p2 q pos : Pos}
end
/-! ### by deep values -/
section
variable {c : Cf} {X : Cx} {e : Expr} {es : List Expr} {fs : DA} {r : List V → Hp → VK → Prop} {g : List D → Option D} {pos : Pos}
end
section
variable {K : PySem.W.Frag} {cl : Cw}
end
section
variable {c : Cf} {X : Cx} {e e2 : Expr} {fs : DA} {p p2 q pos : Pos}
end
end DL

set_option maxRecDepth 100000
set_option maxHeartbeats 4000000
namespace DL
open PySem PySem.Spec PyProof.Rows L2
theorem RepL.eraseIdx {K : PySem.W.Frag} {cl : Cw} {G : Hp} : ∀ {ds : List D} {vs : List V}, RepL K cl G vs ds → ∀ (n : Nat), RepL K cl G (vs.eraseIdx n) (ds.eraseIdx n)
  | [], _, .nil, _ => .nil
  | _ :: _, _, .cons _ t, 0 => t
  | _ :: _, _, .cons r t, n + 1 => .cons r (RepL.eraseIdx t n)
/-! ### x.pop(i), x.insert(i, e) as statements; x[i], x[j] = a, b; x a list of one's own -/
section
variable {c : Cf} {X : Cx} {pos : Pos}
/-! ### x[i], x[j] = e -/
end
/-! ### reckoning -/
section
variable (j : Nat) (fi fe f1 f2 : DE) (δ : DEnv) (v i a b : D) (ds : List D) (n : Int)
end
end DL

set_option maxRecDepth 100000
set_option maxHeartbeats 4000000
namespace DL
open PySem PySem.Spec PyProof.Rows L2
/-! ### several except clauses, some of them with a name -/
/-- a clause: its class, the slot of its name, what its suite wishes -/
abbrev Cl : Type := Value × Option Nat × (Addr → Value → Option Addr → TS)
def offE (i : Nat) (D : Ends) : Ends := { nx := fun σ H => D.nx (σ.set i none) H, rt := D.rt, bk := fun σ H => D.bk (σ.set i none) H, ct := fun σ H => D.ct (σ.set i none) H }
def clW (D : Ends) (a : Addr) (cls : Value) (d : Option Addr) (σ : L2.St) (H : Hp) : Option Nat → (Addr → Value → Option Addr → TS) → Prop
  | none, ts => ts a cls d D σ H
  | some i, ts => ts a cls d (offE i D) (σ.set i (some (.ref a))) H
def wCl (K : PySem.W.Frag) (W0 : WX) (D : Ends) : List Cl → WX
  | [] => W0
  | q :: r => fun cls d σ H => ∃ b, PySem.W.exmOne K cls q.1 = some b ∧ (b = true → ∀ a, H a = none → clW D a cls d σ H q.2.1 q.2.2) ∧ (b = false → wCl K W0 D r cls d σ H)
inductive ClOk (X : Cx) : List ExceptHandler → List Cl → Prop
  | nul : ClOk X [] []
  | plain {x : Str} {c : Value} {ts : Addr → Value → Option Addr → TS} {b0 : Stmt} {su : List Stmt} {np p' : Pos} {hds : List ExceptHandler} {l : List Cl} (hc : Names X x c)
      (h : ∀ (a : Addr) (oe : Obj) (k : Value) (d : Option Addr) (pn : List (Addr × Obj)), Zc k d oe → (∃ vs, oe.data = .fields vs) → PSs (X.suite a ((a, oe) :: pn)) (b0 :: su) (ts a k d)) (r : ClOk X hds l) :
      ClOk X (.ExceptHandler (some (.Name x np)) none (b0 :: su) p' :: hds) ((c, none, ts) :: l)
  | named {x n : Str} {i : Nat} {c : Value} {ts : Addr → Value → Option Addr → TS} {b0 : Stmt} {su : List Stmt} {np p' : Pos} {hds : List ExceptHandler} {l : List Cl} (hc : Names X x c) (hN : X.N.Nodup) (hi : X.N[i]? = some n) (hk : X.env.kindOf n = some NameKind.local)
      (h : ∀ (a : Addr) (oe : Obj) (k : Value) (d : Option Addr) (pn : List (Addr × Obj)), Zc k d oe → (∃ vs, oe.data = .fields vs) → PSs (X.suite a ((a, oe) :: pn)) (b0 :: su) (ts a k d)) (r : ClOk X hds l) :
      ClOk X (.ExceptHandler (some (.Name x np)) (some n) (b0 :: su) p' :: hds) ((c, some i, ts) :: l)
section
variable {X : Cx} {body : List Stmt} {c0 : ExceptHandler} {cs : List ExceptHandler} {l : List Cl} {pos : Pos} {tb : WX → TS} {W0 : WX}
end
/-! ### by data -/
def clH (tab : Str → Str → Option Bool) : List (Str × Option Nat × DS) → Str → List Str → List D → DEnv → SO
  | [], cn, ns, ds, δ => .ex cn ns ds δ
  | (h, o, s) :: r, cn, ns, ds, δ => match tab cn h with
    | some true => (match o with
      | none => (match s δ with
        | .ex _ _ _ _ => .st
        | o => o)
      | some i => if (freeS i δ && noX δ) = true then (match s (δ.set i (slX cn ns ds)) with
        | .nx δ2 => dropX i .nx δ2
        | .rt d δ2 => dropX i (.rt d) δ2
        | .ro d δ2 => dropX i (.ro d) δ2
        | .bk δ2 => dropX i .bk δ2
        | .ct δ2 => dropX i .ct δ2
        | _ => .st) else .st)
    | some false => clH tab r cn ns ds δ
    | none => .st
inductive ClD (c : Cf) (X : Cx) (tab : Str → Str → Option Bool) : List ExceptHandler → List (Str × Option Nat × DS) → List Cl → Prop
  | nul : ClD c X tab [] [] []
  | plain {y : Str} {C : Addr} {b0 : Stmt} {su : List Stmt} {np p' : Pos} {hds : List ExceptHandler} {hs : List (Str × Option Nat × DS)} {l : List Cl} {f : DS}
      (hc : Names X y (.ref C)) (hcl : c.cl y = some C) (h : ∀ (a : Addr) (oe : Obj) (cls : Value) (d : Option Addr) (pn : List (Addr × Obj)), Zc cls d oe → JSs ⟨fun _ _ _ _ => False, c.cl, c.hx⟩ (X.suite a ((a, oe) :: pn)) (b0 :: su) f) (r : ClD c X tab hds hs l) :
      ClD c X tab (.ExceptHandler (some (.Name y np)) none (b0 :: su) p' :: hds) ((y, none, f) :: hs) ((.ref C, none, fun a cls d D σ H => ∀ oe pn, Zc cls d oe → (∃ vs, oe.data = .fields vs) → tSs (X.suite a ((a, oe) :: pn)) (b0 :: su) D σ H) :: l)
  | named {y n : Str} {i : Nat} {C : Addr} {b0 : Stmt} {su : List Stmt} {np p' : Pos} {hds : List ExceptHandler} {hs : List (Str × Option Nat × DS)} {l : List Cl} {f : DS}
      (hc : Names X y (.ref C)) (hcl : c.cl y = some C) (hN : X.N.Nodup) (hi : X.N[i]? = some n) (hk : X.env.kindOf n = some NameKind.local)
      (h : ∀ (a : Addr) (oe : Obj) (cls : Value) (d : Option Addr) (pn : List (Addr × Obj)), Zc cls d oe → (∃ vs, oe.data = .fields vs) → (∃ cn A, tab cn y = some true ∧ c.cl cn = some A ∧ cls = .ref A) → JSs ⟨fun _ _ _ _ => False, c.cl, (a, d)⟩ (X.suite a ((a, oe) :: pn)) (b0 :: su) f) (r : ClD c X tab hds hs l) :
      ClD c X tab (.ExceptHandler (some (.Name y np)) (some n) (b0 :: su) p' :: hds) ((y, some i, f) :: hs) ((.ref C, some i, fun a cls d D σ H => ∀ oe pn, Zc cls d oe → (∃ vs, oe.data = .fields vs) → tSs (X.suite a ((a, oe) :: pn)) (b0 :: su) D σ H) :: l)
section
variable {c : Cf} {X : Cx} {tab : Str → Str → Option Bool}
theorem ClD.ok {hds : List ExceptHandler} {hs : List (Str × Option Nat × DS)} {l : List Cl} (h : ClD c X tab hds hs l) : ClOk X hds l := by
  induction h with
  | nul => exact .nul
  | plain hc hcl hsu r ih => exact .plain hc (fun a oe cls d pn z hf => ⟨fun pins s σ H D I q => q oe pn z hf pins s I⟩) ih
  | named hc hcl hN hi hk hsu r ih => exact .named hc hN hi hk (fun a oe cls d pn z hf => ⟨fun pins s σ H D I q => q oe pn z hf pins s I⟩) ih
theorem ClD.wish (ht : ExmTab X.K c.cl tab) {hds : List ExceptHandler} {hs : List (Str × Option Nat × DS)} {l : List Cl} (h : ClD c X tab hds hs l) {R : List (Nat × Addr)} {H0 G0 H G : Hp} {σ : L2.St} {δ : DEnv} {D' : Ends} {cn : Str} {ns : List Str} {ds : List D} {cls : Value} {dd : Option Addr}
    (k : (c.fx X R H0 G0).Ok H G σ δ) (xo : XOk X.K c.cl G cn ns ds cls dd) (q : SPost (c.fx X R H0 G0) c.W G (clH tab hs cn ns ds δ) D') : wCl X.K c.W D' l cls dd σ H := by
  obtain ⟨A, rfl, hA, xr⟩ := xo
  induction h with
  | nul => exact q (.ref A) dd σ H G (.refl G) k ⟨A, rfl, hA, xr⟩
  | @plain y C b0 su np p' hds hs l f hc hcl hsu r ih =>
    unfold clH at q
    cases e : tab cn y with
    | none => rw [e] at q; exact q.elim
    | some b =>
      rw [e] at q
      refine ⟨b, ht cn y b A C e hA hcl, fun hb a na => ?_, fun hb => ?_⟩
      · subst hb
        dsimp only at q
        intro oe pn z hf
        refine hsu a oe (.ref A) dd pn z R H0 G0 H G σ δ D' k ?_
        cases e2 : f δ with
        | ex _ _ _ _ => rw [e2] at q; exact q.elim
        | nx _ => rw [e2] at q; exact q
        | rt _ _ => rw [e2] at q; exact q
        | ro _ _ => rw [e2] at q; exact q
        | bk _ => rw [e2] at q; exact q
        | ct _ => rw [e2] at q; exact q
        | st => rw [e2] at q; exact q
      · subst hb
        exact ih q
  | @named y n i C b0 su np p' hds hs l g hc hcl hN hi hk hsu r ih =>
    unfold clH at q
    cases e : tab cn y with
    | none => rw [e] at q; exact q.elim
    | some b =>
      rw [e] at q
      refine ⟨b, ht cn y b A C e hA hcl, fun hb a na => ?_, fun hb => ?_⟩
      · subst hb
        dsimp only at q
        by_cases hq : (freeS i δ && noX δ) = true
        · rw [if_pos hq] at q
          obtain ⟨hf, hx⟩ := Bool.and_eq_true_iff.mp hq
          intro oe pn z hv
          obtain ⟨s0, e0, o0, hn⟩ := freeS_at hf
          have kx : Ok X.K c.cl (a, dd) R H0 G0 H G σ δ := k.rehx hx
          have ks : Ok X.K c.cl (a, dd) R H0 G0 H G (σ.set i (some (.ref a))) (δ.set i (slX cn ns ds)) := by
            refine kx.set e0 hn ?_ (fun d z => by cases z) fun b hb => by cases hb
            exact ⟨rfl, xr⟩
          refine hsu a oe (.ref A) dd pn z hv ⟨cn, A, e, hA, rfl⟩ R H0 G0 H G _ _ _ ks ?_
          have ne := spost_ne q
          have back : ∀ {H2 G2 : Hp} {σ2 : L2.St} {δ2 : DEnv}, freeS i δ2 = true → noX (δ2.set i .un) = true → Ok X.K c.cl (a, dd) R H0 G0 H2 G2 σ2 δ2 → Ok X.K c.cl c.hx R H0 G0 H2 G2 (σ2.set i none) (δ2.set i .un) := fun f1 f2 k2 => (k2.drop f1).rehx f2
          cases eg : g (δ.set i (slX cn ns ds)) with
          | nx δ2 =>
            rw [eg] at q ne
            dsimp only at q ne
            obtain ⟨f1, f2, f3⟩ := dropX_st ne
            rw [f3] at q
            exact fun σ2 H2 G2 s2 k2 => q _ H2 G2 s2 (back f1 f2 k2)
          | rt d δ2 =>
            rw [eg] at q ne
            dsimp only at q ne
            obtain ⟨f1, f2, f3⟩ := dropX_st ne
            rw [f3] at q
            exact fun v σ2 H2 G2 s2 k2 r2 => q v _ H2 G2 s2 (back f1 f2 k2) r2
          | ro d δ2 =>
            rw [eg] at q ne
            dsimp only at q ne
            obtain ⟨f1, f2, f3⟩ := dropX_st ne
            rw [f3] at q
            exact fun v σ2 H2 G2 s2 k2 r2 => q v _ H2 G2 s2 (back f1 f2 k2) r2
          | bk δ2 =>
            rw [eg] at q ne
            dsimp only at q ne
            obtain ⟨f1, f2, f3⟩ := dropX_st ne
            rw [f3] at q
            exact fun σ2 H2 G2 s2 k2 => q _ H2 G2 s2 (back f1 f2 k2)
          | ct δ2 =>
            rw [eg] at q ne
            dsimp only at q ne
            obtain ⟨f1, f2, f3⟩ := dropX_st ne
            rw [f3] at q
            exact fun σ2 H2 G2 s2 k2 => q _ H2 G2 s2 (back f1 f2 k2)
          | ex _ _ _ _ => rw [eg] at ne; exact absurd rfl ne
          | st => rw [eg] at ne; exact absurd rfl ne
        · rw [if_neg hq] at q; exact q.elim
      · subst hb
        exact ih q
end
/-! ### reckoning -/
section
variable (tab : Str → Str → Option Bool) (hs r : List (Str × Option Nat × DS)) (f s : DS) (δ : DEnv) (d : D) (h cn : Str) (ns : List Str) (ds : List D) (o : Option Nat) (i : Nat)
end
end DL

set_option maxRecDepth 100000
set_option maxHeartbeats 4000000
namespace DL
open PySem PySem.Spec PyProof.Rows L2
/-! ### a list of one's own is walked and stays one's own -/
def backO : DEnv → DEnv → DEnv
  | .own _ :: r, .rf d :: r2 => .own d :: backO r r2
  | _ :: r, s :: r2 => s :: backO r r2
  | [], l => l
  | _ :: _, [] => []
def bkS : Sl → Sl → Sl
  | .own _, .rf d => .own d
  | _, s => s
theorem backO_cons (s t : Sl) (r r2 : DEnv) : backO (s :: r) (t :: r2) = bkS s t :: backO r r2 := by cases s <;> cases t <;> rfl
theorem backO_len : ∀ δ δ2 : DEnv, (backO δ δ2).length = δ2.length
  | [], l => by cases l <;> rfl
  | s :: r, [] => by cases s <;> rfl
  | s :: r, t :: r2 => by rw [backO_cons, List.length_cons, List.length_cons, backO_len r r2]
theorem backO_at : ∀ (δ δ2 : DEnv) (i : Nat) {s t : Sl}, δ[i]? = some s → δ2[i]? = some t → (backO δ δ2)[i]? = some (bkS s t)
  | s :: r, t :: r2, 0, _, _, e1, e2 => by cases e1; cases e2; rw [backO_cons]; rfl
  | s :: r, t :: r2, i + 1, _, _, e1, e2 => by rw [backO_cons]; exact backO_at r r2 i e1 e2
  | [], _, _, _, _, e1, _ => by simp at e1
  | _ :: _, [], _, _, _, _, e2 => by simp at e2
section
variable {K : PySem.W.Frag} {cl : Cw} {hx : Addr × Option Addr} {R : List (Nat × Addr)} {H0 G0 H G H' G' : Hp} {σ σ2 : L2.St} {δ δ2 : DEnv}
theorem Ok.fresh0 (k : Ok K cl hx R H0 G0 H G σ δ) {b : Addr} (hb : H b = none) : H0 b = none := by
  cases q : H0 b with
  | none => rfl
  | some u =>
    by_cases hm : ∃ p ∈ R, p.2 = b
    · obtain ⟨p, hp, rfl⟩ := hm
      obtain ⟨d, e1, e2⟩ := k.refs p hp
      obtain ⟨a, z, _, w⟩ := k.sl _ _ _ e1 e2
      cases z
      obtain ⟨v, hv⟩ := w.ex
      rw [hb] at hv; cases hv
    · have := k.kept b u q fun p hp e => hm ⟨p, hp, e⟩
      rw [hb] at this; cases this
theorem isO_bk {s t : Sl} : isO (bkS s t) = isO t := by cases s <;> cases t <;> rfl
/-- behind such a walk: what was lent is one's own again -/
theorem Ok.outer (k : Ok K cl hx R H0 G0 H G σ δ) (hl : δ2.length = δ.length) (k2 : Ok K cl hx (refsOf σ δ) H G H' G' σ2 δ2) : Ok K cl hx R H0 G0 H' G' σ2 (backO δ δ2) := by
  have at_ : ∀ {i : Nat} {u : Sl}, (backO δ δ2)[i]? = some u → ∃ s t, δ[i]? = some s ∧ δ2[i]? = some t ∧ u = bkS s t := fun {i u} e => by
    have hi2 : i < δ2.length := by rw [← backO_len δ δ2]; exact (List.getElem?_eq_some_iff.mp e).1
    have hi : i < δ.length := by omega
    have := backO_at δ δ2 i (List.getElem?_eq_getElem hi) (List.getElem?_eq_getElem hi2)
    rw [e] at this
    exact ⟨_, _, List.getElem?_eq_getElem hi, List.getElem?_eq_getElem hi2, Option.some.inj this⟩
  have inR : ∀ p ∈ R, p ∈ refsOf σ δ := fun p hp => by
    obtain ⟨d, e1, e2⟩ := k.refs p hp
    exact mem_refsOf.mpr ⟨_, e1, rfl, e2⟩
  refine ⟨by rw [backO_len]; exact k2.len, k2.sub, k.ext.trans k2.ext, fun b o e => ?_, fun b o e hR => ?_, fun p hp => ⟨(k.rfree p hp).1, (k2.rfree p (inR p hp)).2⟩, fun i u x e1 e2 => ?_, fun i j u v a e1 e2 o1 o2 s1 s2 => ?_, fun p hp => ?_, fun i d e => ?_⟩
  · rcases k2.new b o e with z | z
    · exact k.new b o z
    · exact .inr (k.fresh0 z)
  · refine k2.kept b o (k.kept b o e hR) fun p hp z => ?_
    subst z
    obtain ⟨s, e1, o1, e2⟩ := mem_refsOf.mp hp
    cases s with
    | own d =>
      obtain ⟨a, z, _, h0, _⟩ := k.sl _ _ _ e1 e2
      cases z
      rw [h0] at e; cases e
    | rf d =>
      obtain ⟨q, hq, z⟩ := k.rfs p.1 d e1
      obtain ⟨d', e4, e5⟩ := k.refs q hq
      rw [z, e2] at e5
      have e6 := Option.some.inj (Option.some.inj e5)
      injection e6 with e7
      exact hR q hq e7.symm
    | un => cases o1
    | val d => cases o1
    | exc c ns ds => cases o1
  · obtain ⟨s, t, f1, f2, rfl⟩ := at_ e1
    have q := k2.sl i t x f2 e2
    cases t with
    | un => cases s <;> trivial
    | val d => cases s <;> exact q
    | own d =>
      obtain ⟨a, q1, q2, q3, q4⟩ := q
      have z : SlOk K cl hx H0 H' G' x (.own d) := ⟨a, q1, q2, k.fresh0 q3, q4⟩
      cases s <;> exact z
    | exc c ns ds => cases s <;> exact q
    | rf d =>
      cases s with
      | own d0 =>
        obtain ⟨a, q1, q2, q4⟩ := q
        subst q1
        obtain ⟨p, hp, hpi⟩ := k2.rfs i d f2
        obtain ⟨d', g1, g2⟩ := k2.refs p hp
        rw [hpi, e2] at g2
        cases g2
        obtain ⟨s', g3, _, g4⟩ := mem_refsOf.mp hp
        rw [hpi] at g3 g4
        rw [f1] at g3
        cases g3
        obtain ⟨a', z, _, h0, _⟩ := k.sl i _ _ f1 g4
        cases z
        exact ⟨_, rfl, q2, h0, q4⟩
      | _ => exact q
  · obtain ⟨s, t, f1, f2, rfl⟩ := at_ e1
    obtain ⟨s', t', f3, f4, rfl⟩ := at_ e2
    rw [isO_bk] at o1 o2
    exact k2.sep i j t t' a f2 f4 o1 o2 s1 s2
  · obtain ⟨d, e1, e2⟩ := k.refs p hp
    obtain ⟨d', g1, g2⟩ := k2.refs p (inR p hp)
    exact ⟨d', by rw [backO_at δ δ2 p.1 e1 g1]; rfl, g2⟩
  · obtain ⟨s, t, f1, f2, q⟩ := at_ e
    cases t with
    | rf d' =>
      obtain ⟨p, hp, hpi⟩ := k2.rfs i d' f2
      obtain ⟨s', g3, o3, g4⟩ := mem_refsOf.mp hp
      rw [hpi, f1] at g3
      cases g3
      cases s with
      | rf d0 => exact k.rfs i d0 f1
      | own d0 => cases q
      | un => cases o3
      | val d0 => cases o3
      | exc c ns ds => cases o3
    | _ => cases s <;> cases q
end
section
variable {c : Cf} {X : Cx} {tg e : Expr} {pos : Pos}
/-! ### [elt for target in x if ..] over a list of one's own -/
def cnt (δ : DEnv) (j : Nat) : Option D := δ[j]?.bind Sl.cont
noncomputable def tC (j : Nat) (ds : List D) (t : DT) : DT := open Classical in fun δ => match t δ with
  | .ok b δ2 => if cnt δ2 j = some (.lst ds) then .ok b δ2 else .st
  | o => o
end
/-! ### reckoning -/
end DL

set_option maxRecDepth 100000
set_option maxHeartbeats 4000000
namespace DL
open PySem PySem.Spec PyProof.Rows L2
/-! ### f(a, .., k = v): the last parameter by its name -/
section
variable {c : Cf} {X : Cx} {CX' : CXT} {k n : Nat} {f : Addr} {fd : FuncData} {ps ks : List Str} {sp : Sp} {x : Str} {p pos : Pos} {e : Expr} {es : List Expr} {kws : List Keyword} {t tk : TA} {g : List Value → List Value → List Value} {gV : List V → List V → List V}
end
theorem AvL.len {K : PySem.W.Frag} {cl : Cw} {σ : L2.St} {G : Hp} : ∀ {vs : List V} {as : List AV}, AvL K cl σ G vs as → vs.length = as.length
  | _, _, .nil => rfl
  | _, _, .cons _ t => congrArg (· + 1) (AvL.len t)
section
variable {c : Cf} {X : Cx} {e ke : Expr} {es : List Expr} {fs : DA} {fk : DE} {p pos kpos : Pos} {k n : Nat} {x kn : Str} {ks : List Bool} {fn : List D → FO}
end
/-! ### reckoning -/
end DL

set_option maxRecDepth 100000
set_option maxHeartbeats 4000000
namespace DL
open PySem PySem.Spec PyProof.Rows L2
/-! ### max of a list of whole numbers; (x, ..) * n -/
section
variable {K : PySem.W.Frag} {cl : Cw}
end
section
variable {c : Cf} {X : Cx} {e a b : Expr} {es : List Expr} {fs : DA} {fa fb : DE} {p pos : Pos}
end
end DL

set_option maxRecDepth 100000
set_option maxHeartbeats 4000000
namespace DL
open PySem PySem.Spec PyProof.Rows L2
/-! ### list(zip(x, l)) of a text and a list, of whatever lengths -/
section
variable {prog : Program} {w : World} {A : Around} {E : Value → Shared → Prop} {s : Shared}
section
variable {R : Result → Shared → Prop} {z TI TO i1 i2 Sl : Addr} {wr : List Addr} {n : Nat} {P : Nat → Value → Value → Prop} {St : Nat → Heap → Prop}
end
end
section
variable {X : Cx}
end

section
variable {X : Cx} {e e2 : Expr} {t : TA} {p p2 q pos : Pos}
end
section
variable {K : PySem.W.Frag} {cl : Cw}
end
section
variable {c : Cf} {X : Cx} {e e2 : Expr} {fs : DA} {p p2 q pos : Pos}
end
end DL

set_option maxRecDepth 100000
set_option maxHeartbeats 4000000
namespace DL
open PySem PySem.Spec PyProof.Rows L2
/-! ### {k: v, ..} of constants: a new dict -/
inductive CPs (X : Cx) : List (Option Expr) → List Expr → List Key → List D → List (TE × TE) → Prop where
  | nil : CPs X [] [] [] [] []
  | cons {k v : Expr} {key : Key} {x : V} {d : D} {ks : List (Option Expr)} {vs : List Expr} {keys : List Key} {ds : List D} {trs : List (TE × TE)} (a : PE X k (L2.tC (kV key))) (b : PE X v (L2.tC x)) (r : ∀ K cl G, Rep K cl G x d) (t : CPs X ks vs keys ds trs) :
    CPs X (some k :: ks) (v :: vs) (key :: keys) (d :: ds) ((L2.tC (kV key), L2.tC x) :: trs)
section
variable {X : Cx} {pos : Pos} {kes : List (Option Expr)} {ves : List Expr} {keys : List Key} {ds : List D} {trs : List (TE × TE)}
end
section
variable {c : Cf} {X : Cx} {pos : Pos} {kes : List (Option Expr)} {ves : List Expr} {keys : List Key} {ds : List D} {trs : List (TE × TE)}
end
end DL

set_option maxRecDepth 100000
set_option maxHeartbeats 4000000
namespace DL
open PySem PySem.Spec PyProof.Rows L2
/-! ### len(x) by an own class; d[k] of a dict that an expression tells -/
section
variable {c : Cf} {X : Cx} {k : Nat}
end
section
variable {c : Cf} {X : Cx} {p pos : Pos} {a b e : Expr} {es : List Expr} {fa fb : DE} {fs : DA} {k : Nat} {cn : Str} {fn : List D → FO}
end
/-! ### reckoning -/
end DL

set_option maxRecDepth 100000
set_option maxHeartbeats 4000000
namespace DL
open PySem PySem.Spec PyProof.Rows L2
/-! ### list(t) of a tuple as the program keeps it in a field -/
section
variable {K : PySem.W.Frag} {cl : Cw}
end
section
variable {c : Cf} {X : Cx} {e : Expr} {es : List Expr} {fs : DA} {p pos : Pos}
end
end DL

set_option maxRecDepth 100000
set_option maxHeartbeats 4000000
namespace DL
open PySem PySem.Spec PyProof.Rows L2
/-! ### a tuple of texts that a module's name holds -/
section
variable {c : Cf} {X : Cx} {x : Str} {p : Pos} {xs : List Str}
end
end DL

set_option maxRecDepth 100000
set_option maxHeartbeats 4000000
namespace DL
open PySem PySem.Spec PyProof.Rows L2
/-! ### a star in a written list: [*a, e] -/
section
variable {c : Cf} {X : Cx} {e : Expr} {es : List Expr} {fe : DE} {fs : DA} {p : Pos}
end
/-! ### text.find(x) of a written text -/
section
variable {c : Cf} {X : Cx} {e : Expr} {fe : DE} {p apos cpos : Pos} {a : Str} {j : Nat}
end
/-! ### constants of the module, tuples within one another -/
def KV1 (K : PySem.W.Frag) (u : Value) (d : D) : Prop := ∃ v, RelV v u ∧ ∀ cl G, Rep K cl G v d
def kvsB (f : Value → D → Bool) : List Value → List D → Bool
  | [], [] => true
  | v :: vs, d :: ds => f v d && kvsB f vs ds
  | _, _ => false
def kvB (K : PySem.W.Frag) : Nat → Value → D → Bool
  | _, .none, .non => true
  | _, .bool b, .bl c => b == c
  | _, .int i _, .int j => decide (i = j)
  | _, .str x _, .str y => decide (x = y)
  | n + 1, .ref a, .tup ds => (match K.lookup a with
    | some o => (match o.data with
      | .seq its _ => decide (o.cls = .type "tuple") && (decide (its.size ≤ sizeLine) && kvsB (kvB K n) its.toList ds)
      | _ => false)
    | none => false)
  | _, _, _ => false
theorem kvs_ok {K : PySem.W.Frag} {f : Value → D → Bool} (hf : ∀ v d, f v d = true → KV1 K v d) : ∀ {vs : List Value} {ds : List D}, kvsB f vs ds = true → ∃ xs, Vals xs vs ∧ ∀ cl G, RepL K cl G xs ds
  | [], [], _ => ⟨[], .nil, fun _ _ => .nil⟩
  | [], _ :: _, h => by cases h
  | _ :: _, [], h => by cases h
  | v :: vs, d :: ds, h => by
    have h : (f v d && kvsB f vs ds) = true := h
    rw [Bool.and_eq_true] at h
    obtain ⟨x, r, p⟩ := hf _ _ h.1
    obtain ⟨xs, rs, ps⟩ := kvs_ok hf h.2
    exact ⟨x :: xs, .cons r rs, fun cl G => .cons (p cl G) (ps cl G)⟩
theorem kv_ok {K : PySem.W.Frag} : ∀ {n : Nat} {v : Value} {d : D}, kvB K n v d = true → KV1 K v d := by
  intro n
  induction n with
  | zero =>
    intro v d h
    cases v <;> cases d <;> first | (exfalso; simp [kvB] at h; done) | skip
    · exact ⟨.non, rfl, fun _ _ => .non⟩
    · rename_i b c
      have e : (b == c) = true := by simpa [kvB] using h
      have := eq_of_beq e
      subst this
      exact ⟨.bl b, rfl, fun _ _ => .bl _⟩
    · rename_i i t j
      have e : i = j := by simpa [kvB] using h
      subst e
      exact ⟨.int i, ⟨t, rfl⟩, fun _ _ => .int _⟩
    · rename_i i t j
      have e : i = j := by simpa [kvB] using h
      subst e
      exact ⟨.str i, ⟨t, rfl⟩, fun _ _ => .str _⟩
  | succ n ih =>
    intro v d h
    cases v <;> cases d <;> first | (exfalso; simp [kvB] at h; done) | skip
    · exact ⟨.non, rfl, fun _ _ => .non⟩
    · rename_i b c
      have e : (b == c) = true := by simpa [kvB] using h
      have := eq_of_beq e
      subst this
      exact ⟨.bl b, rfl, fun _ _ => .bl _⟩
    · rename_i i t j
      have e : i = j := by simpa [kvB] using h
      subst e
      exact ⟨.int i, ⟨t, rfl⟩, fun _ _ => .int _⟩
    · rename_i i t j
      have e : i = j := by simpa [kvB] using h
      subst e
      exact ⟨.str i, ⟨t, rfl⟩, fun _ _ => .str _⟩
    · rename_i a ds
      unfold kvB at h
      cases q : K.lookup a with
      | none => rw [q] at h; cases h
      | some o =>
        rw [q] at h
        simp only at h
        cases q2 : o.data with
        | seq its m =>
          rw [q2] at h
          simp only [Bool.and_eq_true] at h
          obtain ⟨xs, r, p⟩ := kvs_ok (fun v d => ih) h.2.2
          exact ⟨.ref a, rfl, fun cl G => .tup (.inr ⟨o, its, m, q, of_decide_eq_true h.1, q2, of_decide_eq_true h.2.1, r⟩) (p cl G)⟩
        | _ => rw [q2] at h; cases h
section
variable {c : Cf} {X : Cx} {x : Str} {p : Pos} {d : D}
end
/-! ### a dict of the module whose values are such constants -/
def tabD : List (Str × D) → Str → Option D
  | [], _ => none
  | q :: r, z => if q.1 = z then some q.2 else tabD r z
structure KTabD (K : PySem.W.Frag) (w : World) (a : Addr) (kvs : List (Str × D)) : Prop where
  kd : ∃ es n, KDict K w a es n
  get : ∀ z, ∃ r, PySem.W.nsIn K a z = some r ∧ (match tabD kvs z with | some d => ∃ u, r = some u ∧ KV1 K u d | none => r = none)
def entsB (K : PySem.W.Frag) : List DictEntry → List (Str × D) → Bool
  | [], [] => true
  | e :: es, q :: qs => (match e.key with | .str x _ => decide (x = q.1) | _ => false) && (kvB K 12 e.val q.2 && entsB K es qs)
  | _, _ => false
def ktdB (K : PySem.W.Frag) (a : Addr) (kvs : List (Str × D)) : Bool := match K.lookup a with
  | some ⟨_, _, .dict es _, _⟩ => entsB K es.toList kvs
  | _ => false
theorem ents_get {K : PySem.W.Frag} (z : Str) : ∀ {es : List DictEntry} {kvs : List (Str × D)}, entsB K es kvs = true → es.any (·.refKey) = false ∧ (match tabD kvs z with | some d => ∃ e, es.find? (·.key.isStr z) = some e ∧ KV1 K e.val d | none => es.find? (·.key.isStr z) = none)
  | [], [], _ => ⟨rfl, rfl⟩
  | [], _ :: _, h => by cases h
  | _ :: _, [], h => by cases h
  | e :: es, q :: qs, h => by
    have h : ((match e.key with | .str x _ => decide (x = q.1) | _ => false) && (kvB K 12 e.val q.2 && entsB K es qs)) = true := h
    rw [Bool.and_eq_true, Bool.and_eq_true] at h
    obtain ⟨h1, h2, h3⟩ := h
    obtain ⟨i1, i2⟩ := ents_get z h3
    cases k : e.key with
    | str x t =>
      rw [k] at h1
      have ex := of_decide_eq_true h1
      refine ⟨by rw [List.any_cons, i1]; simp [DictEntry.refKey, k], ?_⟩
      have hk : e.key.isStr z = decide (x = z) := by
        rw [PySem.W.isStr_of, k]
        show (x == z) = _
        rw [Bool.eq_iff_iff]; simp
      show (match (if q.1 = z then some q.2 else tabD qs z) with | some d => _ | none => _)
      by_cases hz : q.1 = z
      · rw [if_pos hz]
        exact ⟨e, by rw [List.find?_cons_of_pos (by rw [hk, ex, hz]; simp)], kv_ok h2⟩
      · rw [if_neg hz, List.find?_cons_of_neg (by rw [hk, ex]; simp [hz])]
        exact i2
    | _ => rw [k] at h1; cases h1
theorem ktd_of {K : PySem.W.Frag} {w : World} {a : Addr} {kvs : List (Str × D)} (h : ∃ es n, KDict K w a es n) (v : ktdB K a kvs = true) : KTabD K w a kvs := by
  refine ⟨h, fun z => ?_⟩
  obtain ⟨es, n, kd⟩ := h
  have v : entsB K es.toList kvs = true := by
    unfold ktdB at v
    rw [kd.at_] at v
    exact v
  obtain ⟨i1, i2⟩ := ents_get z v
  unfold PySem.W.nsIn
  rw [kd.at_]
  cases q : tabD kvs z with
  | none =>
    rw [q] at i2
    refine ⟨none, ?_, rfl⟩
    simp only [i2, i1]
    rfl
  | some d =>
    rw [q] at i2
    obtain ⟨e, e1, e2⟩ := i2
    refine ⟨some e.val, ?_, e.val, rfl, e2⟩
    simp only [e1]
section
variable {c : Cf} {X : Cx} {x : Str} {e : Expr} {fe : DE} {p pos : Pos} {kvs : List (Str × D)}
theorem KTabD.some_of {K : PySem.W.Frag} {w : World} {a : Addr} {z : Str} (T : KTabD K w a kvs) : ∃ r, PySem.W.nsIn K a z = some r ∧ r.isSome = (tabD kvs z).isSome := by
  obtain ⟨r, h1, h2⟩ := T.get z
  refine ⟨r, h1, ?_⟩
  cases q : tabD kvs z with
  | none => rw [q] at h2; rw [h2]; rfl
  | some d => rw [q] at h2; obtain ⟨u, rfl, _⟩ := h2; rfl
end
/-! ### tuple(d) of such a dict -/
section
variable {c : Cf} {X : Cx} {x : Str} {p p2 pos : Pos} {kvs : List (Str × D)}
def GTab (K : PySem.W.Frag) (w : World) (mg : Str → Option Value) (x : Str) (kvs : List (Str × D)) : Prop := ∃ a, mg x = some (.ref a) ∧ (∃ es n, KDict K w a es n) ∧ ktdB K a kvs = true
theorem GTab.tab {K : PySem.W.Frag} {w : World} {mg : Str → Option Value} {x : Str} {kvs : List (Str × D)} (T : GTab K w mg x kvs) : ∃ a, mg x = some (.ref a) ∧ KTabD K w a kvs := by
  obtain ⟨a, h1, h2, h3⟩ := T
  exact ⟨a, h1, ktd_of h2 h3⟩
end
end DL

set_option maxRecDepth 100000
set_option maxHeartbeats 4000000
namespace DL
open PySem PySem.Spec PyProof.Rows L2
/-! ### dict(zip(t, x)) of a tuple and a list or tuple that is no longer -/
def SqIt (k : Bool) (h : Heap) (i l : Addr) (n : Nat) : Prop := match k with
  | true => h.IsTupleIter i l n
  | false => h.IsListIter i l n
def SqHp (k : Bool) (h : Heap) (l : Addr) (ys : Array Value) : Prop := match k with
  | true => h.IsTuple l ys
  | false => h.IsList l ys
theorem SqIt.at {k : Bool} {h h' : Heap} {i l : Addr} {n : Nat} (x : SqIt k h i l n) (e : ∀ o, h.get? i = some o → h'.get? i = some o) : SqIt k h' i l n := by
  cases k
  · exact Heap.IsListIter.at x e
  · exact Heap.IsTupleIter.at x e
theorem SqHp.at {k : Bool} {h h' : Heap} {l : Addr} {ys : Array Value} (x : SqHp k h l ys) (e : ∀ o, h.get? l = some o → h'.get? l = some o) : SqHp k h' l ys := by
  cases k
  · exact Heap.IsList.at x e
  · exact Heap.IsTuple.at x e
theorem SqIt.ex {k : Bool} {h : Heap} {i l : Addr} {n : Nat} (x : SqIt k h i l n) : ∃ o, h.get? i = some o := by
  cases k
  · obtain ⟨o, h1, _⟩ := id x; exact ⟨o, h1⟩
  · obtain ⟨o, h1, _⟩ := id x; exact ⟨o, h1⟩
theorem SqHp.ex {k : Bool} {h : Heap} {l : Addr} {ys : Array Value} (x : SqHp k h l ys) : ∃ o, h.get? l = some o := by
  cases k
  · obtain ⟨o, h1, _⟩ := id x; exact ⟨o, h1⟩
  · obtain ⟨o, h1, _⟩ := id x; exact ⟨o, h1⟩
section
variable {prog : Program} {w : World}
end
section
variable {X : Cx} {e e2 : Expr} {t : TA} {p p2 q pos : Pos}
end
section
variable {c : Cf} {X : Cx} {e e2 : Expr} {fs : DA} {p p2 q pos : Pos}
end
end DL

set_option maxRecDepth 100000
set_option maxHeartbeats 4000000
namespace DL
open PySem PySem.Spec PyProof.Rows L2
/-! ### y = [elt for target in x if ..], x a list of one's own -/
section
variable {c : Cf} {X : Cx} {tg : Expr}
end
end DL

set_option maxRecDepth 100000
set_option maxHeartbeats 4000000
namespace DL
open PySem PySem.Spec PyProof.Rows L2
/-! ### max(a, b), min(a, b) of two whole numbers -/
section
variable {K : PySem.W.Frag} {cl : Cw}
end
section
variable {c : Cf} {X : Cx} {e a b : Expr} {es : List Expr} {fs : DA} {fa fb : DE} {p pos : Pos}
end
/-! ### a op b op' e op'' f, as a test -/
def dChain3 (g g' g'' : D → D → Option D) (fa fb fe ff : DE) : DE := fun δ => (fa δ).bind fun x δ1 => (fb δ1).bind fun y δ2 => match g x y with
  | some (.bl true) => (fe δ2).bind fun z δ3 => (match g' y z with
    | some (.bl true) => (ff δ3).bind fun w δ4 => (match g'' z w with
      | some t => .ok t δ4
      | none => .st)
    | some (.bl false) => .ok (.bl false) δ3
    | _ => .st)
  | some (.bl false) => .ok (.bl false) δ2
  | _ => .st
section
variable {c : Cf} {X : Cx} {a b : Expr} {fa fb : DE} {pos : Pos}
end
/-! ### reckoning -/
def ch3K3 (g'' : D → D → Option D) (z : D) : EO D → EO D
  | .ok w δ => oE (g'' z w) δ
  | .ex c n d δ => .ex c n d δ
  | .st => .st
def ch3K2 (g'' : D → D → Option D) (ff : DE) (z : D) (δ : DEnv) : Option D → EO D
  | some (.bl true) => ch3K3 g'' z (ff δ)
  | some (.bl false) => .ok (.bl false) δ
  | _ => .st
def ch3K1 (g' g'' : D → D → Option D) (ff : DE) (y : D) : EO D → EO D
  | .ok z δ => ch3K2 g'' ff z δ (g' y z)
  | .ex c n d δ => .ex c n d δ
  | .st => .st
def ch3K0 (g' g'' : D → D → Option D) (fe ff : DE) (y : D) (δ : DEnv) : Option D → EO D
  | some (.bl true) => ch3K1 g' g'' ff y (fe δ)
  | some (.bl false) => .ok (.bl false) δ
  | _ => .st
def ch3B (g g' g'' : D → D → Option D) (fe ff : DE) (x : D) : EO D → EO D
  | .ok y δ => ch3K0 g' g'' fe ff y δ (g x y)
  | .ex c n d δ => .ex c n d δ
  | .st => .st
def ch3A (g g' g'' : D → D → Option D) (fb fe ff : DE) : EO D → EO D
  | .ok x δ => ch3B g g' g'' fe ff x (fb δ)
  | .ex c n d δ => .ex c n d δ
  | .st => .st
section
variable (g g' g'' : D → D → Option D) (fa fb fe ff : DE) (x y z w : D) (δ : DEnv)
theorem a_chain3 : dChain3 g g' g'' fa fb fe ff δ = ch3A g g' g'' fb fe ff (fa δ) := by
  unfold dChain3
  cases fa δ with
  | ex c n d δ => rfl
  | st => rfl
  | ok x δ1 =>
    show (fb δ1).bind _ = ch3B g g' g'' fe ff x (fb δ1)
    cases fb δ1 with
    | ex c n d δ => rfl
    | st => rfl
    | ok y δ2 =>
      show (match g x y with
        | some (.bl true) => (fe δ2).bind fun z δ3 => (match g' y z with
          | some (.bl true) => (ff δ3).bind fun w δ4 => (match g'' z w with | some t => EO.ok t δ4 | none => .st)
          | some (.bl false) => .ok (.bl false) δ3
          | _ => .st)
        | some (.bl false) => .ok (.bl false) δ2
        | _ => .st) = ch3K0 g' g'' fe ff y δ2 (g x y)
      cases g x y with
      | none => rfl
      | some d =>
        cases d with
        | bl b =>
          cases b with
          | false => rfl
          | true =>
            show (fe δ2).bind _ = ch3K1 g' g'' ff y (fe δ2)
            cases fe δ2 with
            | ex c n d δ => rfl
            | st => rfl
            | ok z δ3 =>
              show (match g' y z with
                | some (.bl true) => (ff δ3).bind fun w δ4 => (match g'' z w with | some t => EO.ok t δ4 | none => .st)
                | some (.bl false) => .ok (.bl false) δ3
                | _ => .st) = ch3K2 g'' ff z δ3 (g' y z)
              cases g' y z with
              | none => rfl
              | some d =>
                cases d with
                | bl b =>
                  cases b with
                  | false => rfl
                  | true =>
                    show (ff δ3).bind _ = ch3K3 g'' z (ff δ3)
                    cases ff δ3 with
                    | ex c n d δ => rfl
                    | st => rfl
                    | ok w δ4 =>
                      show (match g'' z w with | some t => EO.ok t δ4 | none => .st) = oE (g'' z w) δ4
                      cases g'' z w <;> rfl
                | _ => rfl
        | _ => rfl
theorem a_ch3A : ch3A g g' g'' fb fe ff (.ok x δ) = ch3B g g' g'' fe ff x (fb δ) := rfl
theorem a_ch3B : ch3B g g' g'' fe ff x (.ok y δ) = ch3K0 g' g'' fe ff y δ (g x y) := rfl
theorem a_ch3K0 : ch3K0 g' g'' fe ff y δ (some (.bl true)) = ch3K1 g' g'' ff y (fe δ) := rfl
theorem a_ch3K0' : ch3K0 g' g'' fe ff y δ (some (.bl false)) = .ok (.bl false) δ := rfl
theorem a_ch3K1 : ch3K1 g' g'' ff y (.ok z δ) = ch3K2 g'' ff z δ (g' y z) := rfl
theorem a_ch3K2 : ch3K2 g'' ff z δ (some (.bl true)) = ch3K3 g'' z (ff δ) := rfl
theorem a_ch3K2' : ch3K2 g'' ff z δ (some (.bl false)) = .ok (.bl false) δ := rfl
theorem a_ch3K3 : ch3K3 g'' z (.ok w δ) = oE (g'' z w) δ := rfl
end
/-! ### x.pop(i) of a list of one's own, as an expression -/
def popXK (j : Nat) (i : D) (δ : DEnv) : Option D → EO D
  | some (.lst ds) => (match i with
    | .int n => if 0 ≤ n ∧ n < (ds.length : Int) ∧ n < 4096 then (match ds[n.toNat]?, putV j (.lst (ds.eraseIdx n.toNat)) δ with
      | some y, some δ2 => .ok y δ2
      | _, _ => .st) else .st
    | _ => .st)
  | _ => .st
def popXE (j : Nat) : EO D → EO D
  | .ok i δ => popXK j i δ (look δ j)
  | .ex c n d δ => .ex c n d δ
  | .st => .st
def popX0 (j : Nat) (fi : DE) (δ : DEnv) : Option D → EO D
  | some (.lst _) => popXE j (fi δ)
  | _ => .st
def dPopI (j : Nat) (fi : DE) : DE := fun δ => popX0 j fi δ (look δ j)
section
variable {c : Cf} {X : Cx}
end
theorem a_popXI (j : Nat) (fi : DE) (δ : DEnv) : dPopI j fi δ = popX0 j fi δ (look δ j) := rfl
theorem a_popX0 (j : Nat) (fi : DE) (δ : DEnv) (ds : List D) : popX0 j fi δ (some (.lst ds)) = popXE j (fi δ) := rfl
theorem a_popXE (j : Nat) (i : D) (δ : DEnv) : popXE j (.ok i δ) = popXK j i δ (look δ j) := rfl
end DL

set_option maxRecDepth 100000
set_option maxHeartbeats 4000000
namespace DL
open PySem PySem.Spec PyProof.Rows L2
/-! ### [x, ..] * n, a new list of one's own -/
section
variable {c : Cf} {X : Cx} {a b : Expr} {fa fb : DE} {pos : Pos}
end
/-! ### any(l), all(l) of whole numbers -/
section
variable {K : PySem.W.Frag} {cl : Cw}
end
section
variable {c : Cf} {X : Cx} {e : Expr} {es : List Expr} {fs : DA} {p pos : Pos}
end
/-! ### sum(t), sorted(t) of a tuple of whole numbers -/
/-! of a list or a tuple -/
section
variable {K : PySem.W.Frag} {cl : Cw}
end
section
variable {c : Cf} {X : Cx} {e : Expr} {es : List Expr} {fs : DA} {p pos : Pos}
end
end DL

set_option maxRecDepth 100000
set_option maxHeartbeats 4000000
namespace DL
open PySem PySem.Spec PyProof.Rows L2
/-! ### return x of an own list: a new one for the caller -/
section
variable {c : Cf} {X : Cx} {e : Expr} {pos : Pos}
end
end DL

set_option maxRecDepth 100000
set_option maxHeartbeats 4000000
/-! isinstance(n, C) that is true, whatever fields n has: the class of n is under C -/
namespace DLIs
open PySem PySem.Spec PySem.Calls PyProof.Rows PySem.W
end DLIs
namespace DL
open PySem PySem.Spec PyProof.Rows L2
section
variable {cl : Cw} {X : Cx} {i : Nat} {a : Addr} {oe : Obj} {cls : Value} {d : Option Addr} {pn : List (Addr × Obj)} {e : Expr} {p pos pt : Pos} {W : WX} {b : Str}
end
end DL

set_option maxRecDepth 100000
set_option maxHeartbeats 4000000
namespace DL
open PySem PySem.Spec PyProof.Rows L2
/-! ### len(set(x)), x a tuple of ints -/
section
variable {c : Cf} {X : Cx} {e : Expr} {te : TE} {p p2 q pos : Pos} {j : Nat}
end
/-! ### reckoning -/
end DL

set_option maxRecDepth 100000
set_option maxHeartbeats 4000000
namespace DL
open PySem PySem.Spec PyProof.Rows L2
/-! ### sorted(l), l a list of tuples of ints -/
section
variable {X : Cx}
end
section
variable {K : PySem.W.Frag} {cl : Cw}
end
section
variable {c : Cf} {X : Cx} {e : Expr} {es : List Expr} {fs : DA} {p pos : Pos}
end
end DL

set_option maxRecDepth 100000
set_option maxHeartbeats 4000000
namespace DL
open PySem PySem.Spec PyProof.Rows L2
/-! ### sorted(set(l)), l a list of pairs of small numbers -/
section
variable {c : Cf} {X : Cx} {e : Expr} {es : List Expr} {fs : DA} {p p2 pos pos2 : Pos}
end
end DL

set_option maxRecDepth 100000
set_option maxHeartbeats 4000000
namespace DL
open PySem PySem.Spec PyProof.Rows L2
/-! ### list(x) of a list of one's own, that stays one's own -/
section
variable {c : Cf} {X : Cx} {e : Expr} {p pos : Pos} {j : Nat}
end
end DL

set_option maxRecDepth 100000
set_option maxHeartbeats 4000000
namespace DL
open PySem PySem.Spec PyProof.Rows L2 GenW
/-! ### for, in a generator def's body -/
section
variable {M : Model} {A : Around} {R : GenEnd} {Y : Protocol} {n : Nat} {s₀ : Shared} {c : Code} {fs : List Frame} {s : Shared} {env : Env}
  {K : Flow → Sem PySem.Fin} {J : Value → Sem PySem.Fin} {gd : Bool → Bool} {lv : List Value → List Value}
end
section
variable {prog : Program} {w : World} {A : Around} {R : GenEnd} {Y : Protocol} {n : Nat} {s₀ : Shared} {fs : List Frame} {s : Shared} {env : Env}
end

section
variable {X : Cx} {tg iter : Expr} {body : List Stmt} {pos : Pos}
end
end DL

set_option maxRecDepth 100000
set_option maxHeartbeats 4000000
namespace DL
open PySem PySem.Spec PyProof.Rows L2 GenW
/-! ### generator defs -/
/-- the end of a generator def: all that it has handed out -/
def GPost (f : Fx) (W : WX) (G : Hp) (o : SO) (Q : List V → Hp → Prop) : Prop := match o with
  | .ro (.lst ds) δ => ∀ ys σ' H' G', Sub G G' → f.Ok H' G' σ' δ → RepL f.K f.cl G' ys ds → Q ys H'
  | .ex c ns ds δ => ∀ cls dd σ' H' G', Sub G G' → f.Ok H' G' σ' δ → XOk f.K f.cl G' c ns ds cls dd → W cls dd σ' H'
  | _ => False
theorem GPost.weak {f : Fx} {W : WX} {G G' : Hp} {o : SO} {Q : List V → Hp → Prop} (s : Sub G G') (h : GPost f W G o Q) : GPost f W G' o Q := by
  cases o with
  | ro d δ =>
    cases d with
    | lst ds => exact fun ys σ' H' G'' s' => h ys σ' H' G'' (s.trans s')
    | _ => exact h
  | ex c ns ds δ => exact fun cls dd σ' H' G'' s' => h cls dd σ' H' G'' (s.trans s')
  | nx δ => exact h
  | rt d δ => exact h
  | bk δ => exact h
  | ct δ => exact h
  | st => exact h
theorem GPost.ofE {α β : Type} {f : Fx} {W : WX} {σ : L2.St} {rel : Hp → β → α → Prop} {G : Hp} {o : EO α} {k : α → DEnv → SO} {Q : List V → Hp → Prop} (h : GPost f W G (o.to k) Q) :
    EPost f W σ rel G o (fun b H1 => ∃ G1 a δ1, Sub G G1 ∧ f.Ok H1 G1 σ δ1 ∧ rel G1 b a ∧ GPost f W G1 (k a δ1) Q) := by
  cases o with
  | ok a δ => exact fun b H' G' s k' r => ⟨G', a, δ, s, k', r, GPost.weak s h⟩
  | ex c ns ds δ => exact fun cls dd H' G' s k' x => h cls dd σ H' G' s k' x
  | st => exact h
section
variable {c : Cf} {X : Cx} {st : Stmt} {rest : List Stmt} {tg iter e : Expr} {pos p2 yp : Pos}
end

section
variable {c : Cf} {X : Cx} {e : Expr} {es : List Expr} {fs : DA} {p pos p' pos' : Pos} {k : Nat} {x : Str} {ks : List Bool} {fn : List D → FO}
end
end DL

set_option maxRecDepth 100000
set_option maxHeartbeats 4000000
namespace DL
open PySem PySem.Spec PyProof.Rows L2
/-! ### one of two rules, by the state; return of a new thing or of a value -/
section
variable {c : Cf} {X : Cx} {e : Expr} {st : Stmt}
end
section
variable {c : Cf} {X : Cx} {t a b e : Expr} {pos p2 p pt : Pos}
end
end DL

set_option maxRecDepth 100000
set_option maxHeartbeats 4000000
namespace DL
open PySem PySem.Spec PyProof.Rows L2
/-! ### x == e, x != e of a list of one's own that stays one's own -/
section
variable {c : Cf} {X : Cx} {a b : Expr} {fb : DE} {pos : Pos} {j : Nat}
end
end DL

set_option maxRecDepth 100000
set_option maxHeartbeats 4000000
namespace DL
open PySem PySem.Spec PyProof.Rows L2 GenW
/-! ### x.split("..") -/
section
variable {c : Cf} {X : Cx} {o : Expr} {fo : DE} {ap pos p : Pos} {b : Str} {j : Nat}
end
/-! ### list(g(..)) where the generator may raise -/
section
variable {c : Cf} {X : Cx} {e : Expr} {es : List Expr} {fs : DA} {p pos p' pos' : Pos} {k : Nat} {x : Str} {ks : List Bool} {fn : List D → FO} {cs : List Str}
end
end DL

set_option maxRecDepth 100000
set_option maxHeartbeats 4000000
namespace DL
open PySem PySem.Spec PyProof.Rows L2
/-! ### int of a text -/
section
variable {K : PySem.W.Frag} {cl : Cw}
end
section
variable {c : Cf} {X : Cx} {e : Expr} {es : List Expr} {fs : DA} {p pos : Pos}
end
end DL

set_option maxRecDepth 100000
set_option maxHeartbeats 4000000
/-! defs whose exceptions have no context: what stands in a try whose except suite raises -/
namespace LW.NN
open PySem PySem.Spec PyProof.Rows L2 DL

theorem cx_to {P : Program} {w : World} {outer : List Env} {H : Hp} {s : Shared} {E : XK} {u : Value} {s' : Shared} (h : L2N.CX P w outer H s E u s') : L2.CX P w outer H s E u s' := by
  obtain ⟨a, B, H', cls, d, e, fl, r⟩ := h
  exact ⟨a, B, H', cls, d, e, L2H.flyingZ_imp (fun o z => z.zc) fl, r⟩
theorem cr_to {P : Program} {w : World} {outer : List Env} {H : Hp} {s : Shared} {Q : VK} {E : XK} {r : Result} {s' : Shared} (h : CR (L2N.CX P w) outer P w H s Q E r s') : CR (L2.CX P w) outer P w H s Q E r s' := by
  cases r with
  | error e => exact cx_to h
  | ok fl => cases fl <;> exact h
theorem fn_to {P : Program} {w : World} {K : PySem.W.Frag} {mg : Str → Option Value} {base : Heap} {k : Nat} {f : Addr} {fd : FuncData} {ps : List Str} {sp : Sp} (F : FnOk P w K mg base (L2N.CX P w) k f fd ps sp) : FnOk P w K mg base (L2.CX P w) k f fd ps sp :=
  ⟨F.len, fun A outer s H args us vs Q E hr he hb hv hs => codeAny_mono (F.run A outer s H args us vs Q E hr he hb hv hs) fun r s' q => cr_to q⟩

section
variable {X : Cx} {e : Expr} {es : List Expr} {ta : TA} {p pos : Pos}
end

theorem def_read {P : Program} {w : World} {K : PySem.W.Frag} {mg : Str → Option Value} {base : Heap} {cl : Cw} {qual : Str} {st : Stmt} {f : Addr} {N ps : List Str} {k : Nat} {ks : List Bool} {F : DS} (S : FnScope N ps (defScope st)) (hk : ks.length = ps.length)
    (hbody : ∀ (cdv : Value) (A : Around) (outer : List Env) (s : Shared) (H : Hp) (E : XK), Room k (A.deeper (envOfC qual (defScope st) s.heap.objs.size f cdv)) →
      L2N.Takes (cxOf (L2N.CX P w) P w K mg base N qual (defScope st) f cdv A outer s H E) (fun c d _ H => E c d H) →
      PassesOwn (model P w) (A.deeper (envOfC qual (defScope st) s.heap.objs.size f cdv)) (envOfC qual (defScope st) s.heap.objs.size f cdv) (cxOf (L2N.CX P w) P w K mg base N qual (defScope st) f cdv A outer s H E).xe →
      JSs ⟨fun c d _ H => E c d H, cl, (0, none)⟩ (cxOf (L2N.CX P w) P w K mg base N qual (defScope st) f cdv A outer s H E) (defBody st) F) :
    ∀ (cdv : Value) (A : Around) (outer : List Env) (s : Shared) (H : Hp) (vs : List V) (Q : VK) (E : XK), Room k (A.deeper (envOfC qual (defScope st) s.heap.objs.size f cdv)) → SpF K cl ks (defF ks N.length F) vs H Q E →
      ∃ t, PSs (cxOf (L2N.CX P w) P w K mg base N qual (defScope st) f cdv A outer s H E) (defBody st) t ∧ t { nx := fun _ H' => Q .non H', rt := Q } (start N vs) H := by
  have hpl : ps.length ≤ N.length := by have := congrArg List.length S.pre; rw [List.length_take] at this; omega
  intro cdv A outer s H vs Q E hr h
  · obtain ⟨G, ds, sg, a, nd, h⟩ := h
    refine ⟨_, pssS _ _, ?_⟩
    have e0 : start N vs = vs.map some ++ List.replicate (N.length - vs.length) (none : Option V) := rfl
    have ok0 := entry_ok (hx := (0, none)) sg a nd (n := N.length) (by rw [hk]; exact hpl)
    rw [← e0] at ok0
    refine hbody cdv A outer s H E hr (L2N.takes_of rfl rfl rfl rfl) (passes_of rfl) (refS vs ks 0) H G H G _ _ _ ok0 ?_
    have hd : ds.length = ks.length := a.length.2
    unfold defF at h
    rw [if_pos hd] at h
    have fin : ∀ {H' G' : Hp} {σ : L2.St} {δ : DEnv} {rs : List D}, Ok K cl (0, none) (refS vs ks 0) H G H' G' σ δ → endR ks δ = some rs → RefOk K cl H' G' (refA vs ks) rs := fun {H' G' σ δ rs} k' e =>
      end_ok k' vs ks 0 rs a.length.1 (fun p hp => hp) a.refs (by rw [List.drop_zero]; exact e)
    cases q : F (mkEnv ks ds N.length) with
    | nx δ =>
      rw [q] at h
      simp only [toFO] at h
      cases q2 : endR ks δ with
      | none => rw [q2] at h; exact h.elim
      | some rs =>
        rw [q2] at h
        exact fun σ' H' G' s' k' => h .non H' G' k'.frm (fin k' q2) .non
    | rt d δ =>
      rw [q] at h
      simp only [toFO] at h
      cases q2 : endR ks δ with
      | none => rw [q2] at h; exact h.elim
      | some rs =>
        rw [q2] at h
        exact fun v σ' H' G' s' k' r => h v H' G' k'.frm (fin k' q2) r
    | ro d δ =>
      rw [q] at h
      simp only [toFO] at h
      cases q2 : endR ks δ with
      | none => rw [q2] at h; exact h.elim
      | some rs =>
        rw [q2] at h
        exact fun a σ' H' G' s' k' h0 ga ow => h a H' G' k'.frm (fin k' q2) h0 ga ow
    | ex cn ns es δ =>
      rw [q] at h
      simp only [toFO] at h
      cases q2 : endR ks δ with
      | none => rw [q2] at h; exact h.elim
      | some rs =>
        rw [q2] at h
        exact fun cls dd σ' H' G' s' k' xo => h cls dd H' G' k'.frm (fin k' q2) xo
    | bk δ => rw [q] at h; exact h.elim
    | ct δ => rw [q] at h; exact h.elim
    | st => rw [q] at h; exact h.elim
structure DefOk (P : Program) (w : World) (K : PySem.W.Frag) (mg : Str → Option Value) (base : Heap) (cl : Cw) (k : Nat) (x : Str) (ks : List Bool) (fn : List D → FO) (f : Addr) (fd : FuncData) (ps : List Str) : Prop where
  ok : FnOk P w K mg base (L2N.CX P w) k f fd ps (SpF K cl ks fn)
  mg : mg x = some (.ref f)
  kp : PySem.W.keepIn K (.ref f) = true
section
variable {c : Cf} {X : Cx} {e : Expr} {es : List Expr} {fs : DA} {p pos : Pos} {k : Nat} {x : Str} {ks : List Bool} {fn : List D → FO} {dds : List D} {f : Addr} {fd : FuncData} {ps : List Str} {ds : List Value} {dvs : List V}
theorem je_call {ks : List Bool} {dds : List D} {fn : List D → FO} {fs : DA} (F : DefOk X.prog X.w X.K X.mg X.base c.cl k x ks fn f fd ps) (hr : Room k X.A) (tk : L2N.Takes X c.W) (hg : Gl X x) (hb : Binds X.K fd ps ds) (hv : Vals dvs ds) (hd : ∀ G, RepL X.K c.cl G dvs dds)
    (ha : JA c X (e :: es) fs) (hdb : (x == ("__debug__" : Str)) = false := by decide) (he : starEach (e :: es) X.env = (false, eval e X.env) :: starEach es X.env := by rfl) (hpl : (backTo pos (starEach es X.env)).any (·.1) = false := by rfl) :
    JE c X (.Call (.Name x p) (e :: es) [] pos) (dCall ks dds fn fs) :=
  je_of (pe_callD F.ok hr hg F.mg F.kp hb hv (fun σ => L2N.passAt tk σ) (paS X (e :: es)) hdb he hpl) fun R H0 G0 H G σ δ Q k h => call_ok hd (fun Q' h' => ha R H0 G0 H G σ δ Q' k h') h
theorem jf_call {ks : List Bool} {dds : List D} {fn : List D → FO} {fs : DA} (F : DefOk X.prog X.w X.K X.mg X.base c.cl k x ks fn f fd ps) (hr : Room k X.A) (tk : L2N.Takes X c.W) (hg : Gl X x) (hb : Binds X.K fd ps ds) (hv : Vals dvs ds) (hd : ∀ G, RepL X.K c.cl G dvs dds)
    (ha : JA c X (e :: es) fs) (hdb : (x == ("__debug__" : Str)) = false := by decide) (he : starEach (e :: es) X.env = (false, eval e X.env) :: starEach es X.env := by rfl) (hpl : (backTo pos (starEach es X.env)).any (·.1) = false := by rfl) :
    JF c X (.Call (.Name x p) (e :: es) [] pos) (dCallO ks dds fn fs) := fun R H0 G0 H G σ δ Q k h pins s I =>
  (pe_callD F.ok hr hg F.mg F.kp hb hv (fun σ => L2N.passAt tk σ) (paS X (e :: es)) hdb he hpl).run pins s σ H Q I (callO_ok hd (fun Q' h' => ha R H0 G0 H G σ δ Q' k h') h)
theorem je_call0 {ks : List Bool} {dds : List D} {fn : List D → FO} (F : DefOk X.prog X.w X.K X.mg X.base c.cl k x ks fn f fd ps) (hr : Room k X.A) (tk : L2N.Takes X c.W) (hg : Gl X x) (hb : Binds X.K fd ps ds) (hv : Vals dvs ds) (hd : ∀ G, RepL X.K c.cl G dvs dds)
    (hdb : (x == ("__debug__" : Str)) = false := by decide) : JE c X (.Call (.Name x p) [] [] pos) (dCall ks dds fn dNil) :=
  je_of (pe_callD0 F.ok hr hg F.mg F.kp hb hv (fun σ => L2N.passAt tk σ) hdb) fun R H0 G0 H G σ δ Q k h => call_ok hd (fs := dNil) (fun Q' (h' : ∀ b H' G', _ → _ → _ → _) => h' [] H G (.refl G) k .nil) h
end
theorem DefOk.mono {P : Program} {w : World} {K : PySem.W.Frag} {mg : Str → Option Value} {base : Heap} {cl : Cw} {j k : Nat} {x : Str} {ks : List Bool} {fn : List D → FO} {f : Addr} {fd : FuncData} {ps : List Str} (F : DefOk P w K mg base cl j x ks fn f fd ps) (h : j ≤ k) : DefOk P w K mg base cl k x ks fn f fd ps := ⟨F.ok.mono h, F.mg, F.kp⟩
theorem none_ok {P : Program} {w : World} {K : PySem.W.Frag} {mg : Str → Option Value} {base : Heap} {cl : Cw} {k : Nat} {f : Addr} {fd : FuncData} {ps : List Str} {ks : List Bool} {fn : List D → FO} (h : ∀ ds, fn ds = .st) : FnOk P w K mg base (L2N.CX P w) k f fd ps (SpF K cl ks fn) := by
  have no : ∀ vs H Q E, ¬ SpF K cl ks fn vs H Q E := fun vs H Q E q => by
    obtain ⟨G, ds, _, _, _, q⟩ := q
    rw [h ds] at q
    exact q
  exact ⟨fun vs H Q E q => absurd q (no vs H Q E), fun A outer s H args us vs Q E _ _ _ _ q => absurd q (no vs H Q E)⟩
theorem def_okD {P : Program} {w : World} {K : PySem.W.Frag} {mg : Str → Option Value} {base : Heap} {cl : Cw} {x qual : Str} {st : Stmt} {f : Addr} {fd : FuncData} {N ps : List Str} {k : Nat} {ks : List Bool} {F : DS} {dvs : List V} {kws : List (Str × V)}
    (FF : FunD K x qual (defArgs st) (defBody st) (defScope st) dvs kws f fd) (S : FnScope N ps (defScope st)) (hk : ks.length = ps.length)
    (hbody : ∀ (cdv : Value) (A : Around) (outer : List Env) (s : Shared) (H : Hp) (E : XK), Room k (A.deeper (envOfC qual (defScope st) s.heap.objs.size f cdv)) →
      L2N.Takes (cxOf (L2N.CX P w) P w K mg base N qual (defScope st) f cdv A outer s H E) (fun c d _ H => E c d H) →
      PassesOwn (model P w) (A.deeper (envOfC qual (defScope st) s.heap.objs.size f cdv)) (envOfC qual (defScope st) s.heap.objs.size f cdv) (cxOf (L2N.CX P w) P w K mg base N qual (defScope st) f cdv A outer s H E).xe →
      JSs ⟨fun c d _ H => E c d H, cl, (0, none)⟩ (cxOf (L2N.CX P w) P w K mg base N qual (defScope st) f cdv A outer s H E) (defBody st) F) :
    FnOk P w K mg base (L2N.CX P w) (k + 1) f fd ps (SpF K cl ks (defF ks N.length F)) := by
  exact FF.ok S (spF_len hk) (def_read S hk hbody)
def Cal (P : Program) (w : World) (K : PySem.W.Frag) (mg : Str → Option Value) (base : Heap) (cl : Cw) (k : Nat) (x : Str) (ks : List Bool) (fn : List D → FO) (dds : List D) : Prop :=
  ∃ f fd ps ds dvs, DefOk P w K mg base cl k x ks fn f fd ps ∧ Binds K fd ps ds ∧ Vals dvs ds ∧ ∀ G, RepL K cl G dvs dds
section
variable {P : Program} {w : World} {K : PySem.W.Frag} {mg : Str → Option Value} {base : Heap} {cl : Cw} {j k : Nat} {x : Str} {ks : List Bool} {fn : List D → FO} {dds : List D}
theorem Cal.mono (c : Cal P w K mg base cl j x ks fn dds) (h : j ≤ k) : Cal P w K mg base cl k x ks fn dds := by
  obtain ⟨f, fd, ps, ds, dvs, h1, h2⟩ := c
  exact ⟨f, fd, ps, ds, dvs, h1.mono h, h2⟩
theorem Cal.to (c : Cal P w K mg base cl k x ks fn dds) : DL.Cal P w K mg base cl k x ks fn dds := by
  obtain ⟨f, fd, ps, ds, dvs, h1, h2⟩ := c
  exact ⟨f, fd, ps, ds, dvs, ⟨fn_to h1.ok, h1.mg, h1.kp⟩, h2⟩
end
section
variable {c : Cf} {X : Cx} {e : Expr} {es : List Expr} {fs : DA} {p pos : Pos} {k : Nat} {x : Str} {ks : List Bool} {fn : List D → FO} {dds : List D} {f : Addr} {fd : FuncData} {ps : List Str} {ds : List Value} {dvs : List V}
theorem je_callC (C : Cal X.prog X.w X.K X.mg X.base c.cl k x ks fn dds) (hr : Room k X.A) (tk : L2N.Takes X c.W) (ha : JA c X (e :: es) fs) (hg : Gl X x := by rfl)
    (hdb : (x == ("__debug__" : Str)) = false := by decide) (he : starEach (e :: es) X.env = (false, eval e X.env) :: starEach es X.env := by rfl) (hpl : (backTo pos (starEach es X.env)).any (·.1) = false := by rfl) :
    JE c X (.Call (.Name x p) (e :: es) [] pos) (dCall ks dds fn fs) := by
  obtain ⟨f, fd, ps, ds, dvs, h1, h2, h3, h4⟩ := C
  exact je_call h1 hr tk hg h2 h3 h4 ha hdb he hpl
theorem jf_callC (C : Cal X.prog X.w X.K X.mg X.base c.cl k x ks fn dds) (hr : Room k X.A) (tk : L2N.Takes X c.W) (ha : JA c X (e :: es) fs) (hg : Gl X x := by rfl)
    (hdb : (x == ("__debug__" : Str)) = false := by decide) (he : starEach (e :: es) X.env = (false, eval e X.env) :: starEach es X.env := by rfl) (hpl : (backTo pos (starEach es X.env)).any (·.1) = false := by rfl) :
    JF c X (.Call (.Name x p) (e :: es) [] pos) (dCallO ks dds fn fs) := by
  obtain ⟨f, fd, ps, ds, dvs, h1, h2, h3, h4⟩ := C
  exact jf_call h1 hr tk hg h2 h3 h4 ha hdb he hpl
theorem je_callC0 (C : Cal X.prog X.w X.K X.mg X.base c.cl k x ks fn dds) (hr : Room k X.A) (tk : L2N.Takes X c.W) (hg : Gl X x := by rfl) (hdb : (x == ("__debug__" : Str)) = false := by decide) :
    JE c X (.Call (.Name x p) [] [] pos) (dCall ks dds fn dNil) := by
  obtain ⟨f, fd, ps, ds, dvs, h1, h2, h3, h4⟩ := C
  exact je_call0 h1 hr tk hg h2 h3 h4 hdb
end
section
variable {c : Cf} {X : Cx} {x : Str} {C : Addr} {p pos : Pos}
theorem pmk_own0 {bmB : List Value} {B newId initId : String} (F : ExcBaseFacts B newId initId bmB) (q : PySem.W.excIn X.K C bmB newId = true) (gC : X.mg x = some (.ref C)) (kC : PySem.W.keepIn X.K (.ref C) = true) (r : Raises X (.ref C)) (hg : Gl X x)
    (hdb : (x == ("__debug__" : Str)) = false := by decide) : L2N.PMk X (.Call (.Name x p) [] [] pos) (fun _ H Q => Q (.ref C) none H) := by
  intro pins s σ H Q I h
  refine wpAny_Call_Name_kw (ld_glob I hg gC ?_ hdb)
  refine PySem.W.callWith_K0 I.kIn kC ?_
  show wpAny _ _ (call (.ref C) []) _ _ _
  obtain ⟨bm, N, nm, qn, bs, hdct, sn, sub, ab, col, dd, k0, k1, k2, k3, k5, mN, hC, hN, hni, T⟩ := exc_obj I.kIn q
  refine wpAny_call_exc_subT F T hC hN hni (fun h' e hm => ?_) (Nat.zero_le _)
  exact L2N.mk_of I hm r h (I.hok.gone hm.new)
end
section
variable {c : Cf} {X : Cx} {x : Str} {e : Expr} {es : List Expr} {fs : DA} {p p' pos : Pos} {ns : List Str}
end
def CalK (P : Program) (w : World) (K : PySem.W.Frag) (mg : Str → Option Value) (base : Heap) (cl : Cw) (k : Nat) (c : Str) (ks : List Bool) (fn : List D → FO) (dds : List D) : Prop :=
  ∃ C f fd ps ds dvs, cl c = some C ∧ mg c = some (.ref C) ∧ Mk K C f ∧ FnOk P w K mg base (L2N.CX P w) k f fd ps (SpF K cl ks fn) ∧ Binds K fd ps ds ∧ Vals dvs ds ∧ ∀ G, RepL K cl G dvs dds
theorem CalK.to {P : Program} {w : World} {K : PySem.W.Frag} {mg : Str → Option Value} {base : Heap} {cl : Cw} {k : Nat} {c : Str} {ks : List Bool} {fn : List D → FO} {dds : List D} (h : CalK P w K mg base cl k c ks fn dds) : DL.CalK P w K mg base cl k c ks fn dds := by
  obtain ⟨C, f, fd, ps, ds, dvs, h1, h2, h3, h4, h5⟩ := h
  exact ⟨C, f, fd, ps, ds, dvs, h1, h2, h3, fn_to h4, h5⟩
section
variable {c : Cf} {X : Cx} {e : Expr} {es : List Expr} {fs : DA} {p pos : Pos} {k : Nat} {x : Str} {ks : List Bool} {fn : List D → FO} {dds : List D} {f : Addr} {fd : FuncData} {ps : List Str} {ds : List Value} {dvs : List V}
end
end LW.NN

set_option maxRecDepth 100000
set_option maxHeartbeats 4000000
/-! try: .. except C: raise X(..) from None -/
namespace DL
open PySem PySem.Spec PyProof.Rows L2
section
variable {c : Cf} {X : Cx} {x : Str} {e : Expr} {es : List Expr} {fs : DA} {p p' pos cpos : Pos} {ns : List Str} {j : Nat}
end
section
variable {c : Cf} {X : Cx} {pos np pos' pos2 cpos p p' : Pos} {x y : Str} {e : Expr} {es : List Expr} {fs : DA} {ns : List Str} {j : Nat}
end

end DL

set_option maxRecDepth 100000
set_option maxHeartbeats 4000000
namespace DL
open PySem PySem.Spec PyProof.Rows L2
/-! ### C(.., x, ..) where a list of one's own is lent by reference -/
theorem ArgOk.up {K : PySem.W.Frag} {cl : Cw} {H G H' : Hp} (s : Sub H H') {vs : List V} {ks : List Bool} {ds : List D} (h : ArgOk K cl H G vs ks ds) : ArgOk K cl H' G vs ks ds := by
  induction h with
  | nil => exact .nil
  | val r t ih => exact .val r ih
  | rf g o t ih => exact .rf g (o.mono (.refl G) fun u z => s _ u z) ih
section
variable {c : Cf} {X : Cx} {C : Addr} {dvs : List V} {t : TA} {fs : DA}
end
section
variable {c : Cf} {X : Cx} {k : Nat} {x : Str} {e : Expr} {es : List Expr} {fs : DA} {p pos : Pos}
end
end DL

set_option maxRecDepth 100000
set_option maxHeartbeats 4000000
namespace DL
open PySem PySem.Spec PyProof.Rows L2
/-! ### for i, x in enumerate(l), set(l): l lent by reference -/
section
variable {c : Cf} {X : Cx} {e : Expr} {p ipos pos tpos : Pos} {elts : List Expr} {kk : Nat}
end
end DL

set_option maxRecDepth 100000
set_option maxHeartbeats 4000000
/-! ### x.extend(t): a list of one's own, a tuple -/
namespace PySem.AutoSeq1
end PySem.AutoSeq1
namespace L2
open PySem PySem.Spec PyProof.Rows
section
variable {X : Cx}
end
end L2
namespace DL
open PySem PySem.Spec PyProof.Rows L2
section
variable {c : Cf} {X : Cx}
end
end DL

set_option maxRecDepth 100000
set_option maxHeartbeats 4000000
namespace DL
open PySem PySem.Spec PyProof.Rows L2
/-! ### sorted(set(l)), l a list of texts -/
def TxE (w : World) (e : Int × Value) : Prop := ∃ (x : Str) (u : Tok), e.1 = hashStr w x ∧ e.2 = .str x u
def txO : Value → Str
  | .str x _ => x
  | _ => ⟨#[]⟩
/-- the texts of a set, each once -/
def SetT (w : World) (g : Heap) (a : Addr) (L : List Str) : Prop :=
  L.Nodup ∧ ∃ (o : Obj) (tb : Array (Int × Value)) (ep : Nat) (t : SetTable), g.get? a = some o ∧ (o.ExactSet ∧ o.data = .set tb ep t) ∧ (∀ e ∈ tb.toList, TxE w e) ∧ (tb.toList.map fun e => txO e.2).Perm L ∧
    tb.size < scanBound ∧ t.fits tb.size = true ∧ Ris t.place.toList ∧ (w.params.followText "set-order" = true ∨ t.led = true)
theorem SetT.at {w : World} {g g' : Heap} {a : Addr} {L : List Str} (R : SetT w g a L) (k : ∀ o, g.get? a = some o → g'.get? a = some o) : SetT w g' a L := by
  obtain ⟨nd, o, tb, ep, t, q, r⟩ := R
  exact ⟨nd, o, tb, ep, t, k o q, r⟩
theorem SetT.len {w : World} {g : Heap} {a : Addr} {L : List Str} (R : SetT w g a L) : L.length < scanBound := by
  obtain ⟨_, o, tb, ep, t, _, _, _, pm, b, _⟩ := R
  rw [← pm.length_eq, List.length_map, Array.length_toList]
  exact b
section
variable {P : Program} {w : World} {A : Around} {E : Value → Shared → Prop} {s : Shared} {a : Addr} {L : List Str}
end
section
variable {P : Program} {w : World} {A : Around} {E : Value → Shared → Prop} {s : Shared}
end
section
variable {X : Cx}
end
section
variable {c : Cf} {X : Cx} {e : Expr} {es : List Expr} {fs : DA} {p p2 pos pos2 : Pos}
end
end DL

set_option maxRecDepth 100000
set_option maxHeartbeats 4000000
namespace DL
open PySem PySem.Spec PyProof.Rows L2
/-! ### l[::-1] of a list, as a value -/
section
variable {c : Cf} {X : Cx} {e : Expr} {fe : DE} {pos p1 p2 p3 : Pos} {k : Nat}
end
/-! ### d.get(x) of a dict of the module: there or None -/
section
variable {X : Cx} {o e : Expr} {apos cpos : Pos} {td ty : TE}
end
section
variable {c : Cf} {X : Cx} {x : Str} {e : Expr} {fe : DE} {p ap cp : Pos} {kvs : List (Str × D)}
end
end DL

set_option maxRecDepth 100000
set_option maxHeartbeats 4000000
namespace DL
open PySem PySem.Spec PyProof.Rows L2
/-! ### a + b of two lists, a new list of one's own -/
section
variable {c : Cf} {X : Cx} {a b : Expr} {fa fb : DE} {pos : Pos}
end
end DL

set_option maxRecDepth 100000
set_option maxHeartbeats 4000000
namespace DL
open PySem PySem.Spec PyProof.Rows L2
/-! ### except C as n, where the body raises but some of the classes of C: isinstance(n, B) by that class -/
def dIsXv (i : Nat) (v : Bool) : DE := fun δ => match δ[i]? with
  | some (.exc _ [] _) => .ok (.bl v) δ
  | _ => .st
section
variable {cl : Cw} {X : Cx} {i : Nat} {a : Addr} {oe : Obj} {cls : Value} {d : Option Addr} {pn : List (Addr × Obj)} {e : Expr} {p pos pt : Pos} {W : WX} {b : Str} {v : Bool}
end
def isxvK (v : Bool) (δ : DEnv) : Option Sl → EO D
  | some (.exc _ [] _) => .ok (.bl v) δ
  | _ => .st
theorem a_isXv (i : Nat) (v : Bool) (δ : DEnv) : dIsXv i v δ = isxvK v δ δ[i]? := by
  unfold dIsXv isxvK
  cases δ[i]? with
  | none => rfl
  | some s =>
    cases s with
    | exc c ns ds => cases ns <;> rfl
    | _ => rfl
theorem a_isxvK (v : Bool) (c : Str) (ds : List D) (δ : DEnv) : isxvK v δ (some (.exc c [] ds)) = .ok (.bl v) δ := rfl
end DL

set_option maxRecDepth 100000
set_option maxHeartbeats 4000000
/-! a def that raises nothing, called while an exception is handled (in an except suite) -/
namespace DL
open PySem PySem.Spec PyProof.Rows L2
structure FnQ (P : Program) (w : World) (K : PySem.W.Frag) (mg : Str → Option Value) (base : Heap) (k : Nat) (f : Addr) (fd : FuncData) (ps : List Str) (sp : List V → Hp → VK → Prop) : Prop where
  len : ∀ vs H Q, sp vs H Q → vs.length = ps.length
  run : ∀ (A : Around) (outer : List Env) (s : Shared) (H : Hp) (args : Args) (us : List Value) (vs : List V) (Q : VK), L2H.RoomH k A → Env0 P w K mg base A outer s H → BindsTo s fd args (ps.zip us) → Vals vs us → sp vs H Q →
    codeAny (model P w) A (.call (.ref f) args) (CR (L2.CX P w) outer P w H s Q (fun _ _ _ => False)) s
theorem FnQ.mono {P : Program} {w : World} {K : PySem.W.Frag} {mg : Str → Option Value} {base : Heap} {j k : Nat} {f : Addr} {fd : FuncData} {ps : List Str} {sp : List V → Hp → VK → Prop} (F : FnQ P w K mg base j f fd ps sp) (h : j ≤ k) : FnQ P w K mg base k f fd ps sp :=
  ⟨F.len, fun A outer s H args us vs Q hr => F.run A outer s H args us vs Q (hr.mono h)⟩
/-- the promise of a def that raises nothing -/
def SpQ (K : PySem.W.Frag) (cl : Cw) (ks : List Bool) (fn : List D → FO) : List V → Hp → VK → Prop := fun vs H Q => SpF K cl ks fn vs H Q (fun _ _ _ => False)
/-- such a def that may be called -/
def CalQ (P : Program) (w : World) (K : PySem.W.Frag) (mg : Str → Option Value) (base : Heap) (cl : Cw) (k : Nat) (x : Str) (ks : List Bool) (fn : List D → FO) : Prop :=
  ∃ f fd ps, FnQ P w K mg base k f fd ps (SpQ K cl ks fn) ∧ mg x = some (.ref f) ∧ PySem.W.keepIn K (.ref f) = true ∧ Binds K fd ps []
theorem CalQ.mono {P : Program} {w : World} {K : PySem.W.Frag} {mg : Str → Option Value} {base : Heap} {cl : Cw} {j k : Nat} {x : Str} {ks : List Bool} {fn : List D → FO} (C : CalQ P w K mg base cl j x ks fn) (h : j ≤ k) : CalQ P w K mg base cl k x ks fn := by
  obtain ⟨f, fd, ps, h1, h2⟩ := C
  exact ⟨f, fd, ps, h1.mono h, h2⟩
section
variable {cl : Cw} {hx : Addr × Option Addr} {X : Cx} {k : Nat} {x : Str} {ks : List Bool} {fn : List D → FO} {fs : DA} {e : Expr} {es : List Expr} {p pos : Pos} {t : TA}
end
end DL

set_option maxRecDepth 100000
set_option maxHeartbeats 4000000
namespace DL
open PySem PySem.Spec PyProof.Rows L2
/-! ### exceptions as values: C(..), its fields, isinstance -/
theorem xh_ok {P : Program} {w : World} {H : Hp} {h : Heap} {a C : Addr} {d : Option Addr} {oe : Obj} {vs : Array Value} (e : h.get? a = some oe) (hc : oe.cls = .ref C) (hd : oe.dict = d) (hf : oe.data = .fields vs) : ObjOk P w H h a (XH a C d) :=
  ⟨⟨oe, vs, e, hc, hd, hf⟩, ⟨_, e⟩, fun h1 h2 z k => by
    obtain ⟨o, v, q1, q2, q3, q4⟩ := z
    exact ⟨o, v, k _ q1, q2, q3, q4⟩⟩
theorem xh_at {P : Program} {w : World} {H : Hp} {h : Heap} {a C : Addr} {d : Option Addr} (hok : HOk P w H h) (e : H a = some (XH a C d)) : ∃ oe vs, h.get? a = some oe ∧ oe.cls = .ref C ∧ oe.dict = d ∧ oe.data = .fields vs := by
  have x : ObjOk P w H h a (.ext fun h => ∃ oe vs, h.get? a = some oe ∧ oe.cls = .ref C ∧ oe.dict = d ∧ oe.data = .fields vs) := hok a _ e
  exact x.1
section
variable {X : Cx} {pins : List (Addr × Obj)} {σ : L2.St} {u : Value} {s' : Shared} {Q : XK}
/-- a made exception is laid -/
theorem mkp_inv (h : MkP X pins σ Q u s') : ∃ (a : Addr) (H' : Hp) (cls : Value) (d : Option Addr), u = .ref a ∧ H' a = none ∧ Q cls d H' ∧ ∀ C, cls = .ref C → Inv X pins σ (upd H' a (XH a C d)) s' := by
  obtain ⟨a, oe, vs, sI, H', cls, d, rfl, J, k, hne, ha, hz, hd, h1, na, os, ag, r, q⟩ := h
  refine ⟨a, H', cls, d, rfl, na, q, fun C hC => ?_⟩
  subst hC
  have nb : ∀ {b : Addr} {o : Obj}, sI.heap.get? b = some o → b ≠ a := fun {b o} e z => by
    rw [z, hne] at e; cases e
  have U : Un (frs X.stack) [] H' (upd H' a (XH a C d)) sI.heap s'.heap := {
    keep := fun b o e _ _ _ => k b o e
    slot := fun b o e _ _ _ => ⟨o.slots, k b o e⟩
    free := fun b o e n _ => by rw [upd_ne (nb e)]; exact n
    there := fun b o e _ => ⟨o, k b o e⟩
    tups := fun b xs z => by rw [upd_ne (ne_of_none z na)]; exact z
    frzs := fun b o v z => by rw [upd_ne (ne_of_none z na)]; exact z
    tbls := fun b ps z => ⟨#[], by rw [upd_ne (ne_of_none z na), z]; simp⟩ }
  refine J.call' (ch := []) os U (fun b o z => ?_) ag (fun b z => absurd z (by simp))
  by_cases hb : b = a
  · subst hb
    rw [upd_same] at z
    cases z
    exact xh_ok ha hz.1 hz.2 hd
  · rw [upd_ne hb] at z
    exact (J.hok b o z).stay (fun c v hc y => k c v y) (fun c hc => by rw [upd_ne (ne_of_none hc na)]; exact hc) (fun c xs hc => by rw [upd_ne (ne_of_none hc na)]; exact hc)
theorem pe_mkv {e : Expr} {t : L2.St → Hp → XK → Prop} (he : PMk X e t) : PE X e (fun σ H Q => t σ H fun cls d H' => ∃ C, cls = .ref C ∧ ∀ a, H' a = none → Q (.ref a) (upd H' a (XH a C d))) := by
  refine ⟨fun pins s σ H Q I h => ?_⟩
  refine wpAny_mono (he pins s σ H _ I h) (fun u s' m => ?_) fun _ _ x => x
  obtain ⟨a, H', cls, d, rfl, na, ⟨C, hC, q⟩, J⟩ := mkp_inv m
  exact ⟨.ref a, _, J C hC, rfl, q a na⟩
end
/-! #### making -/
def dMk0 (x : Str) : DE := fun δ => .ok (.exv x [] []) δ
def dMkF (x : Str) (ns : List Str) (fs : DA) : DE := fun δ => match fs δ with
  | .ok as δ1 => (match avs as with
    | some ds => if ds.length = ns.length then .ok (.exv x ns ds) δ1 else .st
    | none => .st)
  | .ex c n d δ1 => .ex c n d δ1
  | .st => .st
section
variable {c : Cf} {X : Cx} {x : Str} {C : Addr} {e : Expr} {es : List Expr} {fs : DA} {p p' pos : Pos} {ns : List Str}
theorem je_mk0 (T : DL.ExcC X.K X.mg c.cl x C) (hg : Gl X x := by rfl) (hdb : (x == ("__debug__" : Str)) = false := by decide) : JE c X (.Call (.Name x p) [] [] pos) (dMk0 x) := by
  refine je_of (pe_mkv (pmk_own0 PySem.F.excBase_ValueError T.q T.gC T.kC (raises_own T.exC T.tyC) hg hdb)) fun R H0 G0 H G σ δ Q k h => ?_
  refine ⟨C, rfl, fun a na => ?_⟩
  have g := Grow.froze k.sub na (XH a C none)
  exact h (.ref a) _ _ g.gk (k.grow g) (.exv0 upd_same T.cl)
theorem je_mk0C (T : ∃ C, DL.ExcC X.K X.mg c.cl x C) (hg : Gl X x := by rfl) (hdb : (x == ("__debug__" : Str)) = false := by decide) : JE c X (.Call (.Name x p) [] [] pos) (dMk0 x) := by
  obtain ⟨C, T⟩ := T
  exact je_mk0 T hg hdb
theorem je_mkF (T : CalX X.prog X.w X.K X.mg X.base c.cl x ns) (hr : Room 2 X.A) (ha : JA c X (e :: es) fs) (hn : ns.Nodup := by decide) (hl : ns.length ≤ 2 := by decide) (hg : Gl X x := by rfl) (hdb : (x == ("__debug__" : Str)) = false := by decide)
    (he : starEach (e :: es) X.env = (false, eval e X.env) :: starEach es X.env := by rfl) (hpl : (backTo p' (starEach es X.env)).any (·.1) = false := by rfl) :
    JE c X (.Call (.Name x p) (e :: es) [] p') (dMkF x ns fs) := by
  obtain ⟨C, fI, fd, ps, e1, e2, T, iC, tI, F, b⟩ := T
  refine je_of (pe_mkv (pmk_oex T iC tI F hr b .nil (fun _ _ _ _ _ _ _ z => by
    obtain ⟨_, _, _, _, _, _, _, _, _, _, _, _, z⟩ := z
    exact z.elim) hg e2 (paS X (e :: es)) hdb he hpl)) fun R H0 G0 H G σ δ Q k h => ?_
  refine ha R H0 G0 H G σ δ _ k ?_
  unfold dMkF at h
  cases q : fs δ with
  | st => rw [q] at h; exact h.elim
  | ex cn n d δ1 => rw [q] at h; exact fun cls dd H' G' s' k' x' => h cls dd H' G' s' k' x'
  | ok as δ1 =>
    rw [q] at h
    dsimp only at h
    intro vs H1 G1 s1 k1 r1
    cases q2 : avs as with
    | none => rw [q2] at h; exact h.elim
    | some ds =>
      rw [q2] at h
      dsimp only at h
      by_cases hd : ds.length = ns.length
      · rw [if_pos hd] at h
        have rl := r1.vals q2
        have len := rl.length
        refine ⟨by omega, fun a na => ⟨a, vs ++ [], rfl, by rw [List.append_nil]; omega, upd_same, fun dx hn' ne => ⟨rfl, dx, (ns.zip vs).reverse, upd_same, ?_, ?_, ?_⟩⟩⟩
        · rw [upd_ne ne, upd_same, List.append_nil]
        · rw [upd_ne ne] at hn'; exact hn'
        · rw [upd_ne ne] at hn'
          rw [List.append_nil]
          have ee : upd (del (upd (upd (upd H1 a (exo a C none)) dx (exd dx (ns.zip vs).reverse)) a (exo a C (some dx))) a) dx (.xd (ns.zip vs).reverse) = upd H1 dx (.xd (ns.zip vs).reverse) := by
            funext b
            by_cases hb : b = dx
            · subst hb; rw [upd_same, upd_same]
            · rw [upd_ne hb, upd_ne hb]
              by_cases ha' : b = a
              · subst ha'; rw [del_same, na]
              · rw [del_ne ha', upd_ne ha', upd_ne hb, upd_ne ha']
          rw [ee]
          have g := Grow.froze k1.sub hn' (.xd (ns.zip vs).reverse)
          refine ⟨C, rfl, fun a2 na2 => ?_⟩
          have g2 := Grow.froze (k1.grow g).sub na2 (XH a2 C (some dx))
          have gg := g.gk.trans g2.gk
          refine h (.ref a2) _ _ (s1.trans gg) ((k1.grow g).grow g2) (.exv upd_same e1 (g2.gk _ _ upd_same) (rl.mono gg) (by omega) fun n v hm => lookup_mem ?_ (List.mem_reverse.mpr hm))
          rw [List.map_reverse, List.map_fst_zip (by omega)]
          exact (List.reverse_perm _).nodup_iff.mpr hn
      · rw [if_neg hd] at h; exact h.elim
end
/-! #### fields -/
theorem zip_rep {K : PySem.W.Frag} {cl : Cw} {G : Hp} : ∀ {ns : List Str} {vs : List V} {ds : List D} {n : Str} {d : D}, RepL K cl G vs ds → ns.length = vs.length → (ns.zip ds).lookup n = some d → ∃ v, (n, v) ∈ ns.zip vs ∧ Rep K cl G v d
  | [], _, _, _, _, _, _, h => by simp at h
  | m :: ns, _, _, n, d, r, hl, h => by
    cases r with
    | nil => simp at hl
    | @cons v vs e ds r1 r2 =>
      rw [List.zip_cons_cons, List.lookup_cons] at h
      by_cases q : n = m
      · subst q
        rw [beq_self_eq_true] at h
        cases h
        exact ⟨v, List.mem_cons_self .., r1⟩
      · have ne : (n == m) = false := beq_eq_false_iff_ne.mpr q
        rw [ne] at h
        obtain ⟨u, hu, ru⟩ := zip_rep r2 (by simpa using hl) h
        exact ⟨u, List.mem_cons_of_mem _ hu, ru⟩
def xfD (xs : List Str) (n : Str) : D → Option D
  | .exv c ns ds => if xs.contains c = true then (ns.zip ds).lookup n else none
  | _ => none
def dXfv (xs : List Str) (n : Str) (fe : DE) : DE := fun δ => (fe δ).bind fun d δ1 => match xfD xs n d with
  | some v => .ok v δ1
  | none => .st
section
variable {c : Cf} {X : Cx} {e : Expr} {fe : DE} {n : Str} {xs : List Str} {pos : Pos}
theorem je_xfv (T : ∀ cn A, xs.contains cn = true → c.cl cn = some A → XfC X.K A ∧ PySem.W.findIn X.K (.ref A) n = some none) (he : JE c X e fe) (hb : attributeBase e n X.env (eval e X.env) = eval e X.env := by rfl) : JE c X (.Attribute e n pos) (dXfv xs n fe) := by
  have pe : PE X (.Attribute e n pos) (fun σ H Q => tE X e σ H fun x H1 => ∃ (a A dd : Addr) (fs : List (Str × V)) (v : V), x = .ref a ∧ XfC X.K A ∧ PySem.W.findIn X.K (.ref A) n = some none ∧ H1 a = some (XH a A (some dd)) ∧ H1 dd = some (.xd fs) ∧ fs.lookup n = some v ∧ Q v H1) := by
    refine ⟨fun pins s σ H Q I h => ?_⟩
    refine attr_of hb (thn ((peS X e).run pins s σ H _ I h) fun u s1 hh => ?_)
    obtain ⟨x, H1, I1, rx, a, A, dd, fs, v, rfl, T, hno, ea, ed, l, q⟩ := hh
    obtain rfl : u = Value.ref a := rx
    obtain ⟨oe, vs, ha, h1, h2, h3⟩ := xh_at I1.hok ea
    have hx : ObjOk X.prog X.w H1 s1.heap dd (.xd fs) := I1.hok dd _ ed
    obtain ⟨mA, hns, hr⟩ := hx
    obtain ⟨od, ho, hl⟩ := lookIn_ns hns
    obtain ⟨u, hu, ru⟩ := RelO.some_of (v := v) (o := mA n) (by rw [← l]; exact hr n)
    have J : PySem.W.InstAt s1.heap a oe A (some od) := ⟨ha, h1, by unfold PySem.W.notCls; rw [h3] <;> rfl, by rw [h2]; exact ho⟩
    exact PySem.HandSPX.exc_get I1.kIn J T.ga T.gg T.exC (PySem.W.findObj_own T.hdC hno rfl (by rw [hl, hu])) (handed_of ru) ⟨v, H1, I1.tok _, ru, q⟩
  refine je_of pe fun R H0 G0 H G σ δ Q k h => ?_
  refine he R H0 G0 H G σ δ _ k (EPost.imp (EPost.bind h) fun x H1 ⟨G1, d, δ1, s1, k1, r1, h1⟩ => ?_)
  cases q : xfD xs n d with
  | none => rw [q] at h1; exact h1.elim
  | some v =>
    rw [q] at h1
    cases d with
    | exv cn ns ds =>
      have q' : (if xs.contains cn = true then (ns.zip ds).lookup n else none) = some v := q
      by_cases hx : xs.contains cn = true
      · rw [if_pos hx] at q'
        cases r1 with
        | exv0 g1 g2 => simp at q'
        | @exv a A dd _ _ fs vs _ g1 g2 g3 g4 g5 g6 =>
          obtain ⟨u, hu, ru⟩ := zip_rep g4 g5 q'
          obtain ⟨t1, t2⟩ := T _ _ hx g2
          exact ⟨a, A, dd, fs, u, rfl, t1, t2, k1.sub _ _ g1, k1.sub _ _ g3, g6 _ _ hu, h1 u H1 G1 (.refl G1) k1 ru⟩
      · rw [if_neg hx] at q'; cases q'
    | _ => cases q
end
/-! #### isinstance -/
section
variable {prog : Program} {w : World} {A : Around} {E : Value → Shared → Prop} {s : Shared} {K : PySem.W.Frag} {x C : Addr} {ox : Obj} {od : Option Obj}
open PySem.W PySem.Calls in
/-- the class that such an exception tells of itself -/
theorem xv_class {Q : Option Value → Shared → Prop} (T : L2.ExcC K C) (X : K.In s.heap) (I : InstAt s.heap x ox C od) (h : Q (some (.ref C)) { s with toks := s.toks + 1 }) : wpAny (model prog w) A (getAttr? (.ref x) "__class__") Q E s := by
  have fo : findObj K C od "__class__" = some (.bind (.builtin "getset_descriptor.__get__") (.builtin "object.__class__")) := by
    obtain ⟨cd, e, _⟩ := any_some T.hd
    simp [findObj, e, T.ha, T.hn, T.ht]
  obtain ⟨hp, g, dr, t, os⟩ := s
  have ty := I.type (M := model prog w)
  have be : Looks (model prog w) hp (isInstance (.ref x) (.type "BaseException")) true := ty.andThen (looks_subIn X T.hs)
  have ne : (Value.builtin "BaseException.__getattribute__" == Value.builtin "object.__getattribute__") = false := by decide +kernel
  simp only [getAttr?, getAttrBy?, getAttrBy]
  refine wpAny_bind (wpAny_mkText (wpAny_bind (wpAny_attempt (wpAny_holding (wpAny_bind (ty.at (wpAny_bind ((looks_findIn (M := model prog w) X T.hg).at ?_))))))))
  show wpAny _ _ (if (onTheHeap (Value.ref C) && Value.builtin "BaseException.__getattribute__" == Value.builtin "object.__getattribute__") = true then _ else _) _ _ _
  rw [ne, Bool.and_false, if_neg Bool.false_ne_true]
  simp only [getAttrByItsOwn, hookBefore]
  refine wpAny_bind ?_
  rw [if_pos (show onTheHeap (Value.ref C) = true from rfl)]
  refine (looks_findIn (M := model prog w) X T.hk).at (wpAny_bind (wpAny_attempt (wpAny_holding ?_)))
  simp only [callGetattribute]
  rw [if_neg (show ¬((false && onTheHeap (Value.builtin "BaseException.__getattribute__")) = true) from Bool.false_ne_true)]
  simp only [boundAndCalled]
  rw [PySem.F.excAttr_ValueError.ga.bind (.ref x)]
  refine wpAny_bind (wpAny_pure ?_)
  refine wpAny_call (codeAny_call_builtin (args := ⟨[.ref x, .str "__class__" t], []⟩) PySem.F.excAttr_ValueError.ga.plain PySem.F.entry_bexc_ga ?_)
  refine @PySem.W.check_slot (model prog w) _ _ ⟨hp, g, dr, t + 1, os⟩ "BaseException.__getattribute__" "BaseException" "__getattribute__" (.ref x) [.str "__class__" t] [] _ (by decide +kernel) (by decide +kernel) be (PySem.F.args_bexc_ga (.ref x) (.str "__class__" t)) ?_
  simp only [Builtin.«object.__getattribute__»]
  refine wpAny_bind (wpAny_of_eq (a := ((Value.ref x : Value), [Value.str "__class__" t])) (by first | rfl | (simp only [slotArgs]; rfl)) (wpAny_bind (wpAny_pure (wpAny_bind (ty.at (wpAny_bind ((looks_find (M := model prog w) X I fo).at ?_)))))))
  show wpAny _ _ (holding [Value.builtin "object.__class__"] (call (.builtin "getset_descriptor.__get__") [.builtin "object.__class__", .ref x, .ref C]) >>= ret) _ _ _
  refine wpAny_bind (wpAny_holding (wpAny_call (class_get (s := ⟨hp, g, dr, t + 1, os⟩) (ox := ox) (od := od) X I T.hm (wpAny_pure ?_))))
  show wpAny _ _ (handedOut (.ref C)) _ _ _
  rw [handedOut_of (v := .ref C) rfl]
  first
    | exact wpAny_pure (wpAny_pure h)
    | exact wpAny_pure h
    | exact wpAny_pure (wpAny_bind (wpAny_pure (wpAny_pure h)))
end
section
variable {K : PySem.W.Frag} {x C : Addr} {ox : Obj} {od : Option Obj}
theorem cls_there (h : PySem.W.hasDictIn K C = true) : ∃ c d cd sl, K.lookup C = some (⟨c, d, .cls cd, sl⟩ : Obj) := by
  obtain ⟨cd, e, _⟩ := PySem.W.any_some h
  unfold PySem.W.clsIn at e
  split at e
  · exact ⟨_, _, _, _, by assumption⟩
  · cases e
theorem kitx_xv (T : L2.ExcC K C) : PySem.W.KitX K (.ref x) (.ref C) (fun h => PySem.W.InstAt h x ox C od) := by
  obtain ⟨c, d, cd, sl, e⟩ := cls_there T.hd
  refine ⟨fun _ _ _ I => I.type, fun _ _ X _ => ?_, fun h tp dd its n s X htp => ?_, fun X I k => xv_class T X I k⟩
  · intro A' Q' E' s' k q
    simp only [isType, PySem.loadHead]
    exact wpAny_bind (wpAny_loadPart (k _ _ (X _ _ e)) (wpAny_pure q))
  · refine beq_eq_false_iff_ne.mpr fun q => ?_
    cases q
    cases (X _ _ e).symm.trans htp
end
def ixD (tab : Str → Option Bool) : D → Option Bool
  | .exv c _ _ => tab c
  | _ => none
def dIxv (tab : Str → Option Bool) (fe : DE) : DE := fun δ => (fe δ).bind fun d δ1 => match ixD tab d with
  | some b => .ok (.bl b) δ1
  | none => .st
/-- the classes ns, which of them stand under the class cv -/
def IxT (K : PySem.W.Frag) (cl : Cw) (cv : Value) (tab : Str → Option Bool) : Prop := ∀ cn A v, tab cn = some v → cl cn = some A → L2.ExcC K A ∧ PySem.W.kitOne K (.ref A) cv = some v
def xtab (ns sub : List Str) (c : Str) : Option Bool := if ns.contains c = true then some (sub.contains c) else none
/-- isinstance(e, c), e an exception -/
def rIxv (K : PySem.W.Frag) : List V → Hp → VK → Prop := fun xs H Q => ∃ (a C : Addr) (d : Option Addr) (c : V) (cv : Value) (b : Bool), xs = [.ref a, c] ∧ (∀ u, RelV c u → u = cv) ∧ H a = some (XH a C d) ∧ (d = none ∨ ∃ dd fs, d = some dd ∧ H dd = some (.xd fs)) ∧ L2.ExcC K C ∧ PySem.W.kitOne K (.ref C) cv = some b ∧ Q (.bl b) H
section
variable {c : Cf} {X : Cx} {e : Expr} {fe : DE} {b : Str} {tab : Str → Option Bool} {p pt pos : Pos}
theorem call_ixv : CallR X (.builtin "isinstance") (rIxv X.K) := by
  intro pins s σ H xs us Q I r h
  obtain ⟨a, C, d, c, cv, b, rfl, hcv, ea, hd, T, e, q⟩ := h
  obtain ⟨u1, u2, rfl, r1, r2⟩ := vals2 r
  obtain rfl : u1 = Value.ref a := r1
  have ec := hcv _ r2
  subst ec
  obtain ⟨oe, vs, h0, h1, h2, h3⟩ := xh_at I.hok ea
  have J : ∃ od, PySem.W.InstAt s.heap a oe C od := by
    have nc : PySem.W.notCls oe = true := by unfold PySem.W.notCls; rw [h3] <;> rfl
    rcases hd with rfl | ⟨dd, fs, rfl, ed⟩
    · exact ⟨none, h0, h1, nc, by rw [h2]; exact True.intro⟩
    · have hx : ObjOk X.prog X.w H s.heap dd (.xd fs) := I.hok dd _ ed
      obtain ⟨mA, hns, hr⟩ := hx
      obtain ⟨od, ho, _⟩ := lookIn_ns hns
      exact ⟨some od, h0, h1, nc, by rw [h2]; exact ho⟩
  obtain ⟨od, J⟩ := J
  exact PySem.W.kia_one (kitx_xv T) I.kIn J e (fun z => nomatch z) fun tk => ⟨.bl b, H, I.tok tk, rfl, q⟩
theorem je_ixw {cV : V} {cv : Value} (T : IxT X.K c.cl cv tab) (hcv : ∀ u, RelV cV u → u = cv) (pe2 : PE X (.Name b pt) (L2.tC cV)) (he : JE c X e fe) (hg : Gl X "isinstance") (hm : X.mg "isinstance" = none)
    (hs : starEach (e :: [.Name b pt]) X.env = (false, eval e X.env) :: starEach [.Name b pt] X.env := by rfl) (hs2 : starEach [.Name b pt] X.env = (false, eval (.Name b pt) X.env) :: starEach [] X.env := by rfl) (hpl : (backTo pos (starEach [.Name b pt] X.env)).any (·.1) = false := by rfl) :
    JE c X (.Call (.Name "isinstance" p) [e, .Name b pt] [] pos) (dIxv tab fe) := by
  refine je_of (pe_callB call_ixv hg hm (by decide +kernel) (pa_cons (peS X e) (pa_cons pe2 pa_nil hs2) hs) (by decide) (by decide) hs hpl) fun R H0 G0 H G σ δ Q k h => ?_
  refine he R H0 G0 H G σ δ _ k (EPost.imp (EPost.bind h) fun x H1 ⟨G1, d, δ1, s1, k1, r1, h1⟩ => ?_)
  cases q : ixD tab d with
  | none => rw [q] at h1; exact h1.elim
  | some v =>
    rw [q] at h1
    cases d with
    | exv cn ns ds =>
      have q' : tab cn = some v := q
      have fin := h1 (.bl v) H1 G1 (.refl G1) k1 (.bl _)
      cases r1 with
      | exv0 g1 g2 =>
        obtain ⟨t1, t2⟩ := T _ _ _ q' g2
        exact ⟨_, _, none, cV, cv, v, rfl, hcv, k1.sub _ _ g1, .inl rfl, t1, t2, fin⟩
      | @exv a A dd _ _ fs vs _ g1 g2 g3 g4 g5 g6 =>
        obtain ⟨t1, t2⟩ := T _ _ _ q' g2
        exact ⟨_, _, some dd, cV, cv, v, rfl, hcv, k1.sub _ _ g1, .inr ⟨dd, fs, rfl, k1.sub _ _ g3⟩, t1, t2, fin⟩
    | _ => cases q
/-- a class of the program -/
theorem je_ixv (T : ∃ B, X.mg b = some (.ref B) ∧ IxT X.K c.cl (.ref B) tab) (he : JE c X e fe) (hg : Gl X "isinstance") (hm : X.mg "isinstance" = none) (hgb : Gl X b := by rfl) (hdb : (b == ("__debug__" : Str)) = false := by decide)
    (hs : starEach (e :: [.Name b pt]) X.env = (false, eval e X.env) :: starEach [.Name b pt] X.env := by rfl) (hs2 : starEach [.Name b pt] X.env = (false, eval (.Name b pt) X.env) :: starEach [] X.env := by rfl) (hpl : (backTo pos (starEach [.Name b pt] X.env)).any (·.1) = false := by rfl) :
    JE c X (.Call (.Name "isinstance" p) [e, .Name b pt] [] pos) (dIxv tab fe) := by
  obtain ⟨B, mB, T⟩ := T
  exact je_ixw (cV := .ref B) T (fun u hu => hu) (pe_glob hgb mB rfl hdb) he hg hm hs hs2 hpl
/-- a built-in class -/
theorem je_ixt {T' : String} (T : IxT X.K c.cl (.type T') tab) (he : JE c X e fe) (hg : Gl X "isinstance") (hm : X.mg "isinstance" = none) (hmb : X.mg b = none) (hv : bootBuiltins b = some (.type T')) (hgb : Gl X b := by rfl) (hn : b ≠ "__name__" := by decide) (hdb : (b == ("__debug__" : Str)) = false := by decide)
    (hs : starEach (e :: [.Name b pt]) X.env = (false, eval e X.env) :: starEach [.Name b pt] X.env := by rfl) (hs2 : starEach [.Name b pt] X.env = (false, eval (.Name b pt) X.env) :: starEach [] X.env := by rfl) (hpl : (backTo pos (starEach [.Name b pt] X.env)).any (·.1) = false := by rfl) :
    JE c X (.Call (.Name "isinstance" p) [e, .Name b pt] [] pos) (dIxv tab fe) :=
  je_ixw (cV := .ty T') T (fun u hu => hu) (pe_tyn hmb hv hn hgb hdb) he hg hm hs hs2 hpl
end
/-! #### what the head looks at -/
def xcB (K : PySem.W.Frag) (D : Addr) : Bool :=
  He.eqO (PySem.W.findIn K (.ref D) "__getattribute__") (some (some (.builtin "BaseException.__getattribute__"))) && (He.eqO (PySem.W.findIn K (.ref D) "__getattr__") (some none) && (decide (PySem.W.subIn K (.ref D) (.type "BaseException") = some true) && (PySem.W.hasDictIn K D && (He.eqO (PySem.W.findIn K (.ref D) "__class__") (some (some (.builtin "object.__class__"))) &&
  (He.eqO (PySem.W.specialIn K (.builtin "object.__class__") "__get__") (some (some (.builtin "getset_descriptor.__get__"))) && (decide (PySem.W.takesIn K (.builtin "object.__class__") = some true) && decide (PySem.W.mroIn K D (.type "object") = some true)))))))
theorem xcB_ok {K : PySem.W.Frag} {D : Addr} (h : xcB K D = true) : L2.ExcC K D := by
  obtain ⟨h1, h⟩ := He.ba h
  obtain ⟨h2, h⟩ := He.ba h
  obtain ⟨h3, h⟩ := He.ba h
  obtain ⟨h4, h⟩ := He.ba h
  obtain ⟨h5, h⟩ := He.ba h
  obtain ⟨h6, h⟩ := He.ba h
  obtain ⟨h7, h8⟩ := He.ba h
  exact ⟨He.eqO_ok h1, He.eqO_ok h2, of_decide_eq_true h3, h4, He.eqO_ok h5, He.eqO_ok h6, of_decide_eq_true h7, of_decide_eq_true h8⟩
def xcsB (K : PySem.W.Frag) (ga : Str → Addr) (ns : List Str) : Bool := ns.all fun n => xcB K (ga n)
def ixB (K : PySem.W.Frag) (ga : Str → Addr) (cv : Value) (ns sub : List Str) : Bool := ns.all fun n => decide (PySem.W.kitOne K (.ref (ga n)) cv = some (sub.contains n))
theorem ixB_ok {K : PySem.W.Frag} {ga : Str → Addr} {P : Program} {w : World} {cv : Value} {ns sub : List Str} (h : xcsB K ga ns = true) (h2 : ixB K ga cv ns sub = true) : IxT K ⟨fun x => some (ga x), P, w⟩ cv (xtab ns sub) := by
  intro cn A v e1 e2
  cases e2
  unfold xtab at e1
  by_cases z : ns.contains cn = true
  · rw [if_pos z] at e1
    cases e1
    have m := List.contains_iff_mem.mp z
    exact ⟨xcB_ok (List.all_eq_true.mp h _ m), of_decide_eq_true (List.all_eq_true.mp h2 _ m)⟩
  · rw [if_neg z] at e1; cases e1
/-- the classes ns, whose things have the field n of their own -/
def xfsB (K : PySem.W.Frag) (ga : Str → Addr) (ns : List Str) (n : Str) : Bool := ns.all fun c => xfB K (ga c) && decide ((PySem.W.findIn K (.ref (ga c)) n).map Option.isNone = some true)
theorem xfsB_ok {K : PySem.W.Frag} {ga : Str → Addr} {P : Program} {w : World} {ns : List Str} {n : Str} (h : xfsB K ga ns n = true) : ∀ cn A, ns.contains cn = true → (⟨fun x => some (ga x), P, w⟩ : Cw) cn = some A → XfC K A ∧ PySem.W.findIn K (.ref A) n = some none := by
  intro cn A z e
  cases e
  obtain ⟨h1, h2⟩ := He.ba (List.all_eq_true.mp h _ (List.contains_iff_mem.mp z))
  refine ⟨xfB_ok h1, ?_⟩
  have h2 := of_decide_eq_true h2
  cases q : PySem.W.findIn K (.ref (ga cn)) n with
  | none => rw [q] at h2; cases h2
  | some o =>
    cases o with
    | none => rfl
    | some v => rw [q] at h2; cases h2
/-! #### read -/
end DL

set_option maxRecDepth 100000
set_option maxHeartbeats 2000000
namespace LW
open PySem PySem.Spec PyProof.Rows L2 DL
theorem log_lt {i : Int} {k : Nat} (h : i.natAbs < 2 ^ k) (hk : 0 < k) : i.natAbs.log2 < k := by
  by_cases z : i.natAbs = 0
  · rw [z]; simpa using hk
  · exact (Nat.log2_lt z).mpr h
theorem mul_ok {i j : Int} (h1 : i.natAbs < 2 ^ 64) (h2 : j.natAbs < 2 ^ 64) : cMul i j = true := by
  have a := log_lt h1 (by decide)
  have b := log_lt h2 (by decide)
  exact decide_eq_true (by omega)
theorem pos_ok {i j : Int} (h : 0 < j) : cPos i j = true := decide_eq_true h
theorem div_ok {i j : Int} (h : 0 < j) (h2 : j.natAbs < 2 ^ 64) : cDiv i j = true := decide_eq_true ⟨h, by have := log_lt h2 (by decide); omega⟩
theorem int1 (i : Int) : gInt1 [.int i] = some (.int i) := rfl
theorem abs1 (i : Int) : gAbs [.int i] = some (.int (if i < 0 then -i else i)) := rfl
theorem app_lt {n : Nat} (h : n ≤ 63) : n < sizeLine := by rw [sizeLine_eq]; omega
theorem le_line {n : Nat} (h : n ≤ 4096) : n ≤ sizeLine := by rw [sizeLine_eq]; omega
theorem gLst4 (a b c d : D) : gLstD [a, b, c, d] = some (.lst [a, b, c, d]) := if_pos (le_line (by show 4 ≤ 4096; decide))
theorem gLst0 : gLstD [] = some (.lst []) := if_pos (Nat.zero_le _)
theorem ints_inj {k ns : List Int} (e : ns.map D.int = k.map D.int) : k = ns := by
  have := congrArg (List.map fun d : D => match d with | .int i => i | _ => 0) e
  simpa [List.map_map, Function.comp_def] using this.symm
theorem ix0 (a b c d : D) : idxD (.lst [a, b, c, d]) (.int 0) = some a := rfl
theorem ix1 (a b c d : D) : idxD (.lst [a, b, c, d]) (.int 1) = some b := rfl
theorem ix2 (a b c d : D) : idxD (.lst [a, b, c, d]) (.int 2) = some c := rfl
theorem ix3' (a b c d : D) : idxD (.lst [a, b, c, d]) (.int 3) = some d := rfl
theorem n4 (a b c d : D) : ([a, b, c, d] : List D).length = 4 := rfl
theorem x1 : ixN 4 1 = some 1 := rfl
theorem x2 : ixN 4 2 = some 2 := rfl
theorem x3 : ixN 4 3 = some 3 := rfl
theorem len_l (l : List D) : gLen [.lst l] = some (.int (l.length : Nat)) := rfl
theorem at_int (cs : List Int) (p : Int) (h0 : 0 ≤ p) (h1 : p < cs.length) : ∃ c, idxD (.lst (cs.map D.int)) (.int p) = some (.int c) ∧ c ∈ cs := by
  have hp : p.toNat < cs.length := by omega
  refine ⟨cs[p.toNat], ?_, List.getElem_mem hp⟩
  have e : ixN (cs.map D.int).length p = some p.toNat := by
    rw [List.length_map]
    unfold L2.ixN
    rw [if_pos h0, if_pos h1]
  show L2.atI (cs.map D.int) p = _
  unfold L2.atI
  rw [e]
  show (cs.map D.int)[p.toNat]? = _
  rw [List.getElem?_map, List.getElem?_eq_getElem hp]; rfl
theorem big : cPow 10 18 = true := rfl
theorem bigv : (10 : Int) ^ (18 : Int).toNat = 1000000000000000000 := rfl
theorem tb (l i : Nat) : (Builtin.bitAnd ((l : Int) / 2 ^ ((i : Nat) : Int).toNat) 1 != 0) = l.testBit i := by
  have e : ((l : Int) / 2 ^ ((i : Nat) : Int).toNat) = ((l / 2 ^ i : Nat) : Int) := by rw [Int.toNat_natCast]; simp
  rw [e, bitAnd_m1, Nat.testBit_eq_decide_div_mod_eq]
  generalize l / 2 ^ i = k
  by_cases h : k % 2 = 1
  · rw [decide_eq_true h]; simp; omega
  · rw [decide_eq_false h]; simp; omega
theorem rng0 (n : Nat) : rngD 0 ((n : Nat) : Int) = (List.range n).map fun i => D.int ((i : Nat) : Int) := by
  unfold rngD
  rw [Int.sub_zero, Int.toNat_natCast]
  exact List.map_congr_left fun i _ => by rw [Int.zero_add]
theorem itr (n : Nat) (h : n ≤ 4096) (δ : DEnv) : itK1 rg1 (.ok (.int ((n : Nat) : Int)) δ) = .ok ((List.range n).map fun i => D.int ((i : Nat) : Int)) δ := by
  rw [a_itR, rng0]
  exact ⟨by omega, by omega⟩
def sq : Bool → List D → D
  | true, ds => .tup ds
  | false, ds => .lst ds
theorem ix_any {ds : List D} {k : Nat} {d : D} (q : Bool) (h : ds[k]? = some d) : idxD (sq q ds) (.int ((k : Nat) : Int)) = some d := by cases q <;> exact atI_nat h
def rgF (i n : Nat) : List D := (List.range' i n).map fun j => D.int ((j : Nat) : Int)
theorem itF (n : Nat) (h : n ≤ 4096) (δ : DEnv) : itK1 rg1 (.ok (.int ((n : Nat) : Int)) δ) = .ok (rgF 0 n) δ := by
  rw [itr n h]; unfold rgF; rw [List.range_eq_range']
theorem p2 (i : Int) : cPos i 2 = true := rfl
theorem isi_int (Ts : List String) (i : Int) : Option.map (fun t => D.bl (Ts.any (subT t))) (tyD (.int i)) = some (.bl (Ts.any (subT "int"))) := rfl
theorem isi_tup (Ts : List String) (ds : List D) : Option.map (fun t => D.bl (Ts.any (subT t))) (tyD (.tup ds)) = some (.bl (Ts.any (subT "tuple"))) := rfl
theorem s1 : (["tuple"].any (subT "int")) = false := by decide
theorem s2 : (["tuple"].any (subT "tuple")) = true := by decide
theorem s3 : (["bool"].any (subT "int")) = false := by decide
theorem s4 : (["str"].any (subT "int")) = false := by decide
theorem s5 : (["int"].any (subT "int")) = true := by decide
theorem is_non (i : Int) : gIs false (.int i) .non = some (.bl false) ∧ gIs true (.int i) .non = some (.bl true) := ⟨rfl, rfl⟩
theorem mem_rgF {n : Nat} {d : D} (h : d ∈ rgF 0 n) : ∃ k, k < n ∧ d = .int ((k : Nat) : Int) := by
  unfold rgF at h
  obtain ⟨k, hk, rfl⟩ := List.mem_map.mp h
  have := List.mem_range'.mp hk
  obtain ⟨i, hi, rfl⟩ := this
  exact ⟨0 + 1 * i, by omega, rfl⟩
theorem rgF_len (i n : Nat) : (rgF i n).length = n := by unfold rgF; simp
end LW

set_option maxRecDepth 100000
set_option maxHeartbeats 2000000
namespace LW
open PySem PySem.Spec PyProof.Rows L2 DL
/-! ### lots as numbers -/
def Wi (a b : Nat) : Prop := a &&& b = a
theorem wi_bit {a b : Nat} : Wi a b ↔ ∀ j, a.testBit j = true → b.testBit j = true := by
  constructor
  · intro h j hj
    have : (a &&& b).testBit j = true := by rw [h]; exact hj
    rw [Nat.testBit_and, Bool.and_eq_true] at this
    exact this.2
  · intro h
    refine Nat.eq_of_testBit_eq fun j => ?_
    rw [Nat.testBit_and]
    cases e : a.testBit j with
    | false => rfl
    | true => rw [h j e]; rfl
/-- the next lot: the rows' lots from place i on -/
def nx : List Nat → Nat → Nat → Nat → Nat
  | [], _, _, acc => acc
  | a :: r, l, i, acc => nx r l (i + 1) (if l.testBit i then acc ||| a else acc)
def bk : List Nat → Nat → Nat → Nat → Nat
  | [], _, _, acc => acc
  | a :: r, g, i, acc => bk r g (i + 1) (if a &&& g = a then acc ||| 2 ^ i else acc)
abbrev Bk (r : List Nat) (g : Nat) : Nat := bk r g 0 0
theorem ext_bit {a b : Nat} (h : ∀ j, a.testBit j = true ↔ b.testBit j = true) : a = b := Nat.eq_of_testBit_eq fun j => Bool.eq_iff_iff.mpr (h j)
/-- the row of a test -/
def tr (v k : Nat) : List Nat := (List.range v).map fun s => k &&& 2 ^ s
end LW

set_option maxRecDepth 100000
set_option maxHeartbeats 2000000
namespace LW
open PySem PySem.Spec PyProof.Rows L2 DL
/-! ### families of lots -/
theorem wi_refl (a : Nat) : Wi a a := wi_bit.mpr fun _ h => h
theorem wi_trans {a b c : Nat} (h1 : Wi a b) (h2 : Wi b c) : Wi a c := wi_bit.mpr fun j h => wi_bit.mp h2 j (wi_bit.mp h1 j h)
theorem top_lt (v : Nat) : 2 ^ v - 1 < 2 ^ v := Nat.sub_lt (Nat.pow_pos (by decide)) (by decide)
theorem and_lt {a b v : Nat} (h : a < 2 ^ v) : a &&& b < 2 ^ v := Nat.lt_of_le_of_lt Nat.and_le_left h
structure Fam (v : Nat) (ms : List Nat) : Prop where
  asc : ms.Pairwise (· < ·)
  lt : ∀ m ∈ ms, m < 2 ^ v
  top : 2 ^ v - 1 ∈ ms
  meet : ∀ a ∈ ms, ∀ b ∈ ms, a &&& b ∈ ms
/-- the law's way to round: from acc on -/
def rdF (l : Nat) : List Nat → Nat → Nat
  | [], acc => acc
  | m :: r, acc => rdF l r (if l &&& m = l then acc &&& m else acc)
def Rd (v : Nat) (ms : List Nat) (l : Nat) : Nat := rdF l ms (2 ^ v - 1)
section
variable {v : Nat} {ms : List Nat} (F : Fam v ms)
include F
end
/-! ### sharp steps -/
section
variable {v : Nat} {ms : List Nat} (F : Fam v ms) {r : List Nat} (hr : r.length = v) (hl : ∀ a ∈ r, a < 2 ^ v)
include F hr hl
end
end LW

set_option maxRecDepth 100000
set_option maxHeartbeats 2000000
namespace LW
open PySem PySem.Spec PyProof.Rows L2 DL
/-! ### rows of whole numbers as values -/
def rowD (r : List Nat) : List D := r.map fun n => D.int ((n : Nat) : Int)
/-- a row of v lots -/
def Good (v : Nat) (r : List Nat) : Prop := r.length = v ∧ ∀ a ∈ r, a < 2 ^ v
/-! ### sorted -/
def insN (x : Nat) : List Nat → List Nat
  | [] => [x]
  | y :: r => if x ≤ y then x :: y :: r else y :: insN x r
def sortN : List Nat → List Nat
  | [] => []
  | x :: r => insN x (sortN r)
theorem insN_perm (x : Nat) : ∀ l, (insN x l).Perm (x :: l)
  | [] => .refl _
  | y :: r => by
    unfold insN
    split
    · exact .refl _
    · exact ((insN_perm x r).cons y).trans (.swap x y r)
theorem sortN_perm : ∀ l, (sortN l).Perm l
  | [] => .refl _
  | x :: r => (insN_perm x _).trans ((sortN_perm r).cons x)
theorem insN_sorted (x : Nat) : ∀ l, l.Pairwise (· ≤ ·) → (insN x l).Pairwise (· ≤ ·)
  | [], _ => by simp [insN]
  | y :: r, h => by
    have h' := List.pairwise_cons.mp h
    unfold insN
    split
    · rename_i hx
      exact .cons (fun z hz => by
        rcases List.mem_cons.mp hz with rfl | hz
        · exact hx
        · exact Nat.le_trans hx (h'.1 z hz)) h
    · rename_i hx
      refine .cons (fun z hz => ?_) (insN_sorted x r h'.2)
      rcases List.mem_cons.mp ((insN_perm x r).mem_iff.mp hz) with rfl | hz
      · omega
      · exact h'.1 z hz
theorem sortN_sorted : ∀ l, (sortN l).Pairwise (· ≤ ·)
  | [] => .nil
  | x :: r => insN_sorted x _ (sortN_sorted r)
theorem asc_of {l : List Nat} (h : l.Pairwise (· ≤ ·)) (nd : l.Nodup) : l.Pairwise (· < ·) := by
  induction l with
  | nil => exact .nil
  | cons x r ih =>
    have h' := List.pairwise_cons.mp h
    have nd' := List.nodup_cons.mp nd
    exact .cons (fun y hy => Nat.lt_of_le_of_ne (h'.1 y hy) fun e => nd'.1 (e ▸ hy)) (ih h'.2 nd'.2)
theorem sortN_asc {l : List Nat} (nd : l.Nodup) : (sortN l).Pairwise (· < ·) := asc_of (sortN_sorted l) ((sortN_perm l).nodup_iff.mpr nd)
theorem asc_len : ∀ (l : List Nat) (lo n : Nat), l.Pairwise (· < ·) → (∀ x ∈ l, lo ≤ x ∧ x < n) → l.length ≤ n - lo
  | [], _, _, _, _ => Nat.zero_le _
  | x :: r, lo, n, h, hb => by
    have h' := List.pairwise_cons.mp h
    have hx := hb x List.mem_cons_self
    have ih := asc_len r (x + 1) n h'.2 fun y hy => ⟨h'.1 y hy, (hb y (List.mem_cons_of_mem _ hy)).2⟩
    simp only [List.length_cons]
    omega
theorem nodup_len {l : List Nat} {n : Nat} (nd : l.Nodup) (hb : ∀ x ∈ l, x < n) : l.length ≤ n := by
  have := asc_len (sortN l) 0 n (sortN_asc nd) fun x hx => ⟨Nat.zero_le _, hb x ((sortN_perm l).mem_iff.mp hx)⟩
  rw [(sortN_perm l).length_eq] at this
  omega
/-! ### all common parts -/
def meetIn (l : Nat) : List Nat → List Nat → List Nat
  | [], acc => acc
  | k :: r, acc => meetIn l r (if (k &&& l) ∈ acc then acc else acc ++ [k &&& l])
def metAll : List Nat → List Nat → List Nat
  | [], acc => acc
  | l :: r, acc => metAll r (meetIn l acc acc)
theorem meetIn_nodup (l : Nat) : ∀ (s acc : List Nat), acc.Nodup → (meetIn l s acc).Nodup
  | [], acc, h => h
  | k :: r, acc, h => by
    rw [meetIn]
    refine meetIn_nodup l r _ ?_
    split
    · exact h
    · rename_i hn
      exact List.nodup_append.mpr ⟨h, List.nodup_cons.mpr ⟨by simp, .nil⟩, fun a ha b hb e => hn (by
        have : b = k &&& l := by simpa using hb
        rw [← this, ← e]; exact ha)⟩
theorem meetIn_mem (l : Nat) : ∀ (s acc : List Nat) (x : Nat), x ∈ meetIn l s acc ↔ x ∈ acc ∨ ∃ k ∈ s, x = k &&& l
  | [], acc, x => by simp [meetIn]
  | k :: r, acc, x => by
    rw [meetIn, meetIn_mem l r _ x]
    have e : (x ∈ if (k &&& l) ∈ acc then acc else acc ++ [k &&& l]) ↔ x ∈ acc ∨ x = k &&& l := by
      split
      · rename_i h
        exact ⟨.inl, fun z => z.elim id fun z => z ▸ h⟩
      · simp
    rw [e]
    constructor
    · rintro ((h | h) | ⟨k', h1, h2⟩)
      · exact .inl h
      · exact .inr ⟨k, List.mem_cons_self, h⟩
      · exact .inr ⟨k', List.mem_cons_of_mem _ h1, h2⟩
    · rintro (h | ⟨k', h1, h2⟩)
      · exact .inl (.inl h)
      · rcases List.mem_cons.mp h1 with rfl | h1
        · exact .inl (.inr h2)
        · exact .inr ⟨k', h1, h2⟩
/-- lots that are unlike, with ALL and their common parts -/
structure Cl (v : Nat) (ks : List Nat) : Prop where
  nd : ks.Nodup
  lt : ∀ k ∈ ks, k < 2 ^ v
  top : 2 ^ v - 1 ∈ ks
  meet : ∀ a ∈ ks, ∀ b ∈ ks, a &&& b ∈ ks
theorem Cl.one (v : Nat) : Cl v [2 ^ v - 1] := by
  refine ⟨List.nodup_cons.mpr ⟨by simp, .nil⟩, fun k hk => ?_, List.mem_cons_self, fun a ha b hb => ?_⟩
  · have : k = 2 ^ v - 1 := by simpa using hk
    rw [this]; exact top_lt v
  · have e1 : a = 2 ^ v - 1 := by simpa using ha
    have e2 : b = 2 ^ v - 1 := by simpa using hb
    rw [e1, e2, Nat.and_self]; exact List.mem_cons_self
theorem Cl.meetIn {v : Nat} {ks : List Nat} (c : Cl v ks) (l : Nat) : Cl v (meetIn l ks ks) := by
  refine ⟨meetIn_nodup l ks ks c.nd, fun k hk => ?_, (meetIn_mem l ks ks _).mpr (.inl c.top), fun a ha b hb => ?_⟩
  · rcases (meetIn_mem l ks ks k).mp hk with h | ⟨j, h, rfl⟩
    · exact c.lt k h
    · exact and_lt (c.lt j h)
  · refine (meetIn_mem l ks ks _).mpr ?_
    rcases (meetIn_mem l ks ks a).mp ha with h | ⟨j, h, rfl⟩ <;> rcases (meetIn_mem l ks ks b).mp hb with h' | ⟨j', h', rfl⟩
    · exact .inl (c.meet a h b h')
    · exact .inr ⟨a &&& j', c.meet a h j' h', by rw [Nat.and_assoc]⟩
    · exact .inr ⟨j &&& b, c.meet j h b h', by rw [Nat.and_assoc, Nat.and_assoc, Nat.and_comm l b]⟩
    · refine .inr ⟨j &&& j', c.meet j h j' h', ?_⟩
      refine ext_bit fun i => ?_
      simp only [Nat.testBit_and, Bool.and_eq_true]
      constructor
      · rintro ⟨⟨h1, h2⟩, h3, h4⟩; exact ⟨⟨h1, h3⟩, h2⟩
      · rintro ⟨⟨h1, h2⟩, h3⟩; exact ⟨⟨h1, h3⟩, h2, h3⟩
theorem Cl.all {v : Nat} : ∀ (ls : List Nat) {ks : List Nat}, Cl v ks → Cl v (metAll ls ks)
  | [], _, c => c
  | l :: r, _, c => Cl.all r (c.meetIn l)
theorem Cl.len {v : Nat} {ks : List Nat} (c : Cl v ks) : ks.length ≤ 2 ^ v := nodup_len c.nd c.lt
def met (v : Nat) (ls : List Nat) : List Nat := sortN (metAll ls [2 ^ v - 1])
theorem Fam.len {v : Nat} {ms : List Nat} (F : Fam v ms) : ms.length ≤ 2 ^ v := by
  have := asc_len ms 0 (2 ^ v) F.asc fun x hx => ⟨Nat.zero_le _, F.lt x hx⟩
  omega
theorem Fam.ne {v : Nat} {ms : List Nat} (F : Fam v ms) : ms ≠ [] := fun e => by have := F.top; rw [e] at this; cases this
/-- the last member is ALL -/
theorem Fam.last {v : Nat} {ms : List Nat} (F : Fam v ms) : ms[ms.length - 1]? = some (2 ^ v - 1) := by
  obtain ⟨i, hi, e⟩ := List.mem_iff_getElem.mp F.top
  have hl : ms.length - 1 < ms.length := by omega
  rw [List.getElem?_eq_getElem hl]
  by_cases q : i = ms.length - 1
  · subst q; rw [e]
  · have h1 := List.pairwise_iff_getElem.mp F.asc i (ms.length - 1) hi hl (by omega)
    have h2 := F.lt _ (List.getElem_mem hl)
    rw [e] at h1
    omega
end LW

set_option maxRecDepth 100000
set_option maxHeartbeats 2000000
namespace LW
open PySem PySem.Spec PyProof.Rows L2 DL
/-! ### comprehensions over the items of a list of numbers -/
/-! ### least and greatest lots -/
/-! ### sharp lots -/
section
variable {v : Nat} {ms r : List Nat} (F : Fam v ms) (g : Good v r)
include F g
end
end LW

set_option maxRecDepth 100000
set_option maxHeartbeats 2000000
namespace LW
open PySem PySem.Spec PyProof.Rows L2 DL
/-! ### cuts of rows -/
def Rt (v : Nat) (ms r : List Nat) (s m : Nat) : Bool := (Rd v ms (Bk r m)).testBit s && !(Bk r m).testBit s
def cutN (r : List Nat) (s m : Nat) : List Nat := r.set s (r.getD s 0 &&& m)
def RW (t r : List Nat) : Prop := t.length = r.length ∧ ∀ j, Wi (t.getD j 0) (r.getD j 0)
inductive Rc (v : Nat) (ms : List Nat) (r : List Nat) : List Nat → Prop
  | refl : Rc v ms r r
  | step {c : List Nat} {s m : Nat} : Rc v ms r c → m ∈ ms → s < v → Rt v ms c s m = true → Rc v ms r (cutN c s m)
theorem RW.refl (r : List Nat) : RW r r := ⟨rfl, fun _ => wi_refl _⟩
theorem RW.trans {a b c : List Nat} (h : RW a b) (g : RW b c) : RW a c := ⟨h.1.trans g.1, fun j => wi_trans (h.2 j) (g.2 j)⟩
section
variable {v : Nat} {ms : List Nat} (F : Fam v ms)
include F
end
/-! ### how many cuts there are -/
/-! ### cuts as values, judged one by one -/
def cd (s m : Nat) : D := .tup (rowD [s, m])
/-! parts of lots -/
end LW

set_option maxRecDepth 100000
set_option maxHeartbeats 2000000
namespace LW
open PySem PySem.Spec PyProof.Rows L2 DL
/-! ### sorted sets of whole numbers -/
/-! ### lots met by sorted sets -/
/-! ### boxes -/
def bx (m a b : Nat) : Nat → Nat
  | 0 => 0
  | x + 1 => bx m a b x ||| (if a.testBit x then b * 2 ^ (x * m) else 0)
/-- the three pairs -/
inductive Pq : Nat → Nat → Prop
  | a : Pq 2 2
  | b : Pq 2 3
  | c : Pq 3 2
section
variable {n m : Nat} (p : Pq n m)
include p
theorem Pq.b1 : 1 ≤ n ∧ n ≤ 3 ∧ 1 ≤ m ∧ m ≤ 3 ∧ 1 ≤ n * m ∧ n * m ≤ 6 := by cases p <;> decide
end
/-- the boxes of two lists of lots -/
def boxes (n m : Nat) (as bs : List Nat) : List Nat := as.flatMap fun a => bs.map fun b => bx m a b n
/-! ### comprehensions of two fors -/
end LW

set_option maxRecDepth 100000
set_option maxHeartbeats 0
namespace LW
open PySem PySem.Spec PyProof.Rows L2 DL
def top (i : Nat) : Stmt := PySem.Challenge.pw_truealarms_k61_errors_side_by_side.main.body.getD i (.Pass ⟨0, 0, 0, 0⟩)
abbrev s__law_hand : Stmt := top 38
abbrev N__law_hand : List Str := ["_law_script", "_law_total", "_law_cells", "_law_cell"]
theorem sc__law_hand : FnScope N__law_hand ["_law_script"] (defScope s__law_hand) := ⟨rfl, rfl, rfl, by decide +kernel, rfl, by decide +kernel, by decide +kernel⟩
abbrev s__law_mixed : Stmt := top 39
abbrev N__law_mixed : List Str := ["_law_number", "_law_turn", "_law_once", "_law_twice"]
theorem sc__law_mixed : FnScope N__law_mixed ["_law_number", "_law_turn"] (defScope s__law_mixed) := ⟨rfl, rfl, rfl, by decide +kernel, rfl, by decide +kernel, by decide +kernel⟩
abbrev s__law_take : Stmt := top 40
abbrev N__law_take : List Str := ["_law_hand_here", "_law_many", "_law_cell", "_law_rest"]
theorem sc__law_take : FnScope N__law_take ["_law_hand_here", "_law_many"] (defScope s__law_take) := ⟨rfl, rfl, rfl, by decide +kernel, rfl, by decide +kernel, by decide +kernel⟩
abbrev s__law_int : Stmt := top 41
abbrev N__law_int : List Str := ["_law_thing"]
theorem sc__law_int : FnScope N__law_int ["_law_thing"] (defScope s__law_int) := ⟨rfl, rfl, rfl, by decide +kernel, rfl, by decide +kernel, by decide +kernel⟩
abbrev s__law_exact : Stmt := top 42
abbrev N__law_exact : List Str := ["_law_told", "_law_due", "_law_k"]
theorem sc__law_exact : FnScope N__law_exact ["_law_told", "_law_due"] (defScope s__law_exact) := ⟨rfl, rfl, rfl, by decide +kernel, rfl, by decide +kernel, by decide +kernel⟩
abbrev s__law_bare : Stmt := top 43
abbrev N__law_bare : List Str := ["_law_one"]
theorem sc__law_bare : FnScope N__law_bare [] (defScope s__law_bare) := ⟨rfl, rfl, rfl, by decide +kernel, rfl, by decide +kernel, by decide +kernel⟩
abbrev s__law_singles : Stmt := top 44
abbrev N__law_singles : List Str := ["_law_a", "_law_one", "_law_kept", "_law_two"]
theorem sc__law_singles : FnScope N__law_singles ["_law_a"] (defScope s__law_singles) := ⟨rfl, rfl, rfl, by decide +kernel, rfl, by decide +kernel, by decide +kernel⟩
abbrev s__law_pairs : Stmt := top 45
abbrev N__law_pairs : List Str := ["_law_a", "_law_b", "_law_one", "_law_kept"]
theorem sc__law_pairs : FnScope N__law_pairs ["_law_a", "_law_b"] (defScope s__law_pairs) := ⟨rfl, rfl, rfl, by decide +kernel, rfl, by decide +kernel, by decide +kernel⟩
abbrev s__law_classes_of : Stmt := top 46
abbrev N__law_classes_of : List Str := ["_law_e", "_law_rows"]
theorem sc__law_classes_of : FnScope N__law_classes_of ["_law_e"] (defScope s__law_classes_of) := ⟨rfl, rfl, rfl, by decide +kernel, rfl, by decide +kernel, by decide +kernel⟩
abbrev s_law : Stmt := top 47
abbrev N_law : List Str := ["_law_script", "_law_hand_here", "_law_a", "_law_b", "_law_singles_here", "_law_pairs_here", "_law_made", "_law_k", "_law_told", "_law_e", "_law_j", "_law_row"]
theorem sc_law : FnScope N_law ["_law_script"] (defScope s_law) := ⟨rfl, rfl, rfl, by decide +kernel, rfl, by decide +kernel, by decide +kernel⟩
abbrev s_x_BadCells : Stmt := (clsBody (top 27)).getD 0 (.Pass ⟨0, 0, 0, 0⟩)
theorem sc_x_BadCells : FnScope ["self", "what", "place"] ["self", "what", "place"] (defScope s_x_BadCells) := ⟨rfl, rfl, rfl, by decide +kernel, rfl, by decide +kernel, by decide +kernel⟩
abbrev s_x_BadDemand : Stmt := (clsBody (top 35)).getD 0 (.Pass ⟨0, 0, 0, 0⟩)
theorem sc_x_BadDemand : FnScope ["self", "place"] ["self", "place"] (defScope s_x_BadDemand) := ⟨rfl, rfl, rfl, by decide +kernel, rfl, by decide +kernel, by decide +kernel⟩
abbrev s_x_BadEdit : Stmt := (clsBody (top 33)).getD 0 (.Pass ⟨0, 0, 0, 0⟩)
theorem sc_x_BadEdit : FnScope ["self", "place", "what"] ["self", "place", "what"] (defScope s_x_BadEdit) := ⟨rfl, rfl, rfl, by decide +kernel, rfl, by decide +kernel, by decide +kernel⟩
abbrev s_x_BadFact : Stmt := (clsBody (top 31)).getD 0 (.Pass ⟨0, 0, 0, 0⟩)
theorem sc_x_BadFact : FnScope ["self", "place"] ["self", "place"] (defScope s_x_BadFact) := ⟨rfl, rfl, rfl, by decide +kernel, rfl, by decide +kernel, by decide +kernel⟩
abbrev s_x_BadGlasses : Stmt := (clsBody (top 4)).getD 0 (.Pass ⟨0, 0, 0, 0⟩)
theorem sc_x_BadGlasses : FnScope ["self", "what", "place"] ["self", "what", "place"] (defScope s_x_BadGlasses) := ⟨rfl, rfl, rfl, by decide +kernel, rfl, by decide +kernel, by decide +kernel⟩
abbrev s_x_BadLines : Stmt := (clsBody (top 17)).getD 0 (.Pass ⟨0, 0, 0, 0⟩)
theorem sc_x_BadLines : FnScope ["self", "number", "word"] ["self", "number", "word"] (defScope s_x_BadLines) := ⟨rfl, rfl, rfl, by decide +kernel, rfl, by decide +kernel, by decide +kernel⟩
abbrev s_x_BadMove : Stmt := (clsBody (top 21)).getD 0 (.Pass ⟨0, 0, 0, 0⟩)
theorem sc_x_BadMove : FnScope ["self", "index", "what"] ["self", "index", "what"] (defScope s_x_BadMove) := ⟨rfl, rfl, rfl, by decide +kernel, rfl, by decide +kernel, by decide +kernel⟩
abbrev s_x_BadPair : Stmt := (clsBody (top 29)).getD 0 (.Pass ⟨0, 0, 0, 0⟩)
theorem sc_x_BadPair : FnScope ["self", "what"] ["self", "what"] (defScope s_x_BadPair) := ⟨rfl, rfl, rfl, by decide +kernel, rfl, by decide +kernel, by decide +kernel⟩
abbrev s_x_BadProgram : Stmt := (clsBody (top 12)).getD 0 (.Pass ⟨0, 0, 0, 0⟩)
theorem sc_x_BadProgram : FnScope ["self", "what"] ["self", "what"] (defScope s_x_BadProgram) := ⟨rfl, rfl, rfl, by decide +kernel, rfl, by decide +kernel, by decide +kernel⟩
abbrev s_x_BadRewriting : Stmt := (clsBody (top 19)).getD 0 (.Pass ⟨0, 0, 0, 0⟩)
theorem sc_x_BadRewriting : FnScope ["self", "what"] ["self", "what"] (defScope s_x_BadRewriting) := ⟨rfl, rfl, rfl, by decide +kernel, rfl, by decide +kernel, by decide +kernel⟩
abbrev s_x_BadRow : Stmt := (clsBody (top 9)).getD 0 (.Pass ⟨0, 0, 0, 0⟩)
theorem sc_x_BadRow : FnScope ["self", "place"] ["self", "place"] (defScope s_x_BadRow) := ⟨rfl, rfl, rfl, by decide +kernel, rfl, by decide +kernel, by decide +kernel⟩
abbrev s_x_BadStand : Stmt := (clsBody (top 13)).getD 0 (.Pass ⟨0, 0, 0, 0⟩)
theorem sc_x_BadStand : FnScope ["self", "stand"] ["self", "stand"] (defScope s_x_BadStand) := ⟨rfl, rfl, rfl, by decide +kernel, rfl, by decide +kernel, by decide +kernel⟩
abbrev s_x_BadSteps : Stmt := (clsBody (top 10)).getD 0 (.Pass ⟨0, 0, 0, 0⟩)
theorem sc_x_BadSteps : FnScope ["self", "what", "place"] ["self", "what", "place"] (defScope s_x_BadSteps) := ⟨rfl, rfl, rfl, by decide +kernel, rfl, by decide +kernel, by decide +kernel⟩
abbrev s_x_BadText : Stmt := (clsBody (top 8)).getD 0 (.Pass ⟨0, 0, 0, 0⟩)
theorem sc_x_BadText : FnScope ["self", "at", "what"] ["self", "at", "what"] (defScope s_x_BadText) := ⟨rfl, rfl, rfl, by decide +kernel, rfl, by decide +kernel, by decide +kernel⟩
abbrev s_x_NoMove : Stmt := (clsBody (top 20)).getD 0 (.Pass ⟨0, 0, 0, 0⟩)
theorem sc_x_NoMove : FnScope ["self", "what"] ["self", "what"] (defScope s_x_NoMove) := ⟨rfl, rfl, rfl, by decide +kernel, rfl, by decide +kernel, by decide +kernel⟩
abbrev s_x_NoStep : Stmt := (clsBody (top 11)).getD 0 (.Pass ⟨0, 0, 0, 0⟩)
theorem sc_x_NoStep : FnScope ["self", "name"] ["self", "name"] (defScope s_x_NoStep) := ⟨rfl, rfl, rfl, by decide +kernel, rfl, by decide +kernel, by decide +kernel⟩
abbrev s_x_NoWay : Stmt := (clsBody (top 14)).getD 0 (.Pass ⟨0, 0, 0, 0⟩)
theorem sc_x_NoWay : FnScope ["self", "stand"] ["self", "stand"] (defScope s_x_NoWay) := ⟨rfl, rfl, rfl, by decide +kernel, rfl, by decide +kernel, by decide +kernel⟩
abbrev s_x_NoneFits : Stmt := (clsBody (top 32)).getD 0 (.Pass ⟨0, 0, 0, 0⟩)
theorem sc_x_NoneFits : FnScope ["self", "place", "other"] ["self", "place", "other"] (defScope s_x_NoneFits) := ⟨rfl, rfl, rfl, by decide +kernel, rfl, by decide +kernel, by decide +kernel⟩
abbrev s_x_NotEven : Stmt := (clsBody (top 28)).getD 0 (.Pass ⟨0, 0, 0, 0⟩)
theorem sc_x_NotEven : FnScope ["self", "member"] ["self", "member"] (defScope s_x_NotEven) := ⟨rfl, rfl, rfl, by decide +kernel, rfl, by decide +kernel, by decide +kernel⟩
abbrev s_x_NotLet : Stmt := (clsBody (top 18)).getD 0 (.Pass ⟨0, 0, 0, 0⟩)
theorem sc_x_NotLet : FnScope ["self", "what"] ["self", "what"] (defScope s_x_NotLet) := ⟨rfl, rfl, rfl, by decide +kernel, rfl, by decide +kernel, by decide +kernel⟩
abbrev s_x_NotTest : Stmt := (clsBody (top 23)).getD 0 (.Pass ⟨0, 0, 0, 0⟩)
theorem sc_x_NotTest : FnScope ["self", "name"] ["self", "name"] (defScope s_x_NotTest) := ⟨rfl, rfl, rfl, by decide +kernel, rfl, by decide +kernel, by decide +kernel⟩
abbrev s_x_Spoilt : Stmt := (clsBody (top 34)).getD 0 (.Pass ⟨0, 0, 0, 0⟩)
theorem sc_x_Spoilt : FnScope ["self", "place"] ["self", "place"] (defScope s_x_Spoilt) := ⟨rfl, rfl, rfl, by decide +kernel, rfl, by decide +kernel, by decide +kernel⟩
abbrev s_x_TooMany : Stmt := (clsBody (top 7)).getD 0 (.Pass ⟨0, 0, 0, 0⟩)
theorem sc_x_TooMany : FnScope ["self", "most"] ["self", "most"] (defScope s_x_TooMany) := ⟨rfl, rfl, rfl, by decide +kernel, rfl, by decide +kernel, by decide +kernel⟩
def tabL : List (Str × Str × Bool) := []
def tabE (a b : Str) : Option Bool := tabOf tabL a b
def xnS : List Str := (["CheckerError", "BadStands", "BadLot", "BadGlasses", "NoMember", "UnlikeStands", "TooMany", "BadText", "BadRow", "BadSteps", "NoStep", "BadProgram"] : List Str) ++ (["BadStand", "NoWay", "NotAgain", "BadKind", "BadLines", "NotLet", "BadRewriting", "NoMove", "BadMove", "BadManner", "NotTest", "NotAll"] : List Str) ++ (["NoCounter", "BadMost", "BadCells", "NotEven", "BadPair", "BadSide", "BadFact", "NoneFits", "BadEdit", "Spoilt", "BadDemand", "NoDeed"] : List Str)
def xs_BadCells : List Str := (["BadCells"] : List Str)
def xs_BadDemand : List Str := (["BadDemand"] : List Str)
def xs_BadEdit : List Str := (["BadEdit"] : List Str)
def xs_BadFact : List Str := (["BadFact"] : List Str)
def xs_BadGlasses : List Str := (["BadGlasses"] : List Str)
def xs_BadKind : List Str := (["BadKind"] : List Str)
def xs_BadLines : List Str := (["BadLines"] : List Str)
def xs_BadLot : List Str := (["BadLot"] : List Str)
def xs_BadManner : List Str := (["BadManner"] : List Str)
def xs_BadMost : List Str := (["BadMost"] : List Str)
def xs_BadMove : List Str := (["BadMove"] : List Str)
def xs_BadPair : List Str := (["BadPair"] : List Str)
def xs_BadProgram : List Str := (["BadProgram"] : List Str)
def xs_BadRewriting : List Str := (["BadRewriting"] : List Str)
def xs_BadRow : List Str := (["BadRow"] : List Str)
def xs_BadSide : List Str := (["BadSide"] : List Str)
def xs_BadStand : List Str := (["BadStand"] : List Str)
def xs_BadStands : List Str := (["BadStands"] : List Str)
def xs_BadSteps : List Str := (["BadSteps"] : List Str)
def xs_BadText : List Str := (["BadText"] : List Str)
def xs_CheckerError : List Str := (["CheckerError", "BadStands", "BadLot", "BadGlasses", "NoMember", "UnlikeStands", "TooMany", "BadText", "BadRow", "BadSteps", "NoStep", "BadProgram"] : List Str) ++ (["BadStand", "NoWay", "NotAgain", "BadKind", "BadLines", "NotLet", "BadRewriting", "NoMove", "BadMove", "BadManner", "NotTest", "NotAll"] : List Str) ++ (["NoCounter", "BadMost", "BadCells", "NotEven", "BadPair", "BadSide", "BadFact", "NoneFits", "BadEdit", "Spoilt", "BadDemand", "NoDeed"] : List Str)
def xs_NoCounter : List Str := (["NoCounter"] : List Str)
def xs_NoDeed : List Str := (["NoDeed"] : List Str)
def xs_NoMember : List Str := (["NoMember"] : List Str)
def xs_NoMove : List Str := (["NoMove"] : List Str)
def xs_NoStep : List Str := (["NoStep"] : List Str)
def xs_NoWay : List Str := (["NoWay"] : List Str)
def xs_NoneFits : List Str := (["NoneFits"] : List Str)
def xs_NotAgain : List Str := (["NotAgain"] : List Str)
def xs_NotAll : List Str := (["NotAll"] : List Str)
def xs_NotEven : List Str := (["NotEven"] : List Str)
def xs_NotLet : List Str := (["NotLet"] : List Str)
def xs_NotTest : List Str := (["NotTest"] : List Str)
def xs_Spoilt : List Str := (["Spoilt"] : List Str)
def xs_TooMany : List Str := (["TooMany"] : List Str)
def xs_UnlikeStands : List Str := (["UnlikeStands"] : List Str)
def xs_ValueError : List Str := xnS
def xn_at : List Str := (["BadText"] : List Str)
def xn_index : List Str := (["BadMove"] : List Str)
def xn_member : List Str := (["NotEven"] : List Str)
def xn_most : List Str := (["TooMany"] : List Str)
def xn_name : List Str := (["NoStep", "NotTest"] : List Str)
def xn_number : List Str := (["BadLines"] : List Str)
def xn_other : List Str := (["NoneFits"] : List Str)
def xn_place : List Str := (["BadGlasses", "BadRow", "BadSteps", "BadCells", "BadFact", "NoneFits", "BadEdit", "Spoilt", "BadDemand"] : List Str)
def xn_stand : List Str := (["BadStand", "NoWay"] : List Str)
def xn_what : List Str := (["BadGlasses", "BadText", "BadSteps", "BadProgram", "NotLet", "BadRewriting", "NoMove", "BadMove", "BadCells", "BadPair", "BadEdit"] : List Str)
def xn_word : List Str := (["BadLines"] : List Str)
/-! ### the head -/
def fa : List He.Fa := [.free "ValueError", .free "abs", .free "bool", .free "int", .free "isinstance", .free "len", .free "range", .free "str", .free "tuple", .glo "BadCells", .noat "BadCells" "what", .noat "BadCells" "place", .glo "BadDemand", .noat "BadDemand" "place", .glo "BadEdit", .noat "BadEdit" "place", .noat "BadEdit" "what", .glo "BadFact", .noat "BadFact" "place", .glo "BadGlasses", .noat "BadGlasses" "what", .noat "BadGlasses" "place", .glo "BadLines", .noat "BadLines" "number", .noat "BadLines" "word", .glo "BadMove", .noat "BadMove" "index", .noat "BadMove" "what", .glo "BadPair", .noat "BadPair" "what", .glo "BadProgram", .noat "BadProgram" "what", .glo "BadRewriting", .noat "BadRewriting" "what", .glo "BadRow", .noat "BadRow" "place", .glo "BadStand", .noat "BadStand" "stand", .glo "BadSteps", .noat "BadSteps" "what", .noat "BadSteps" "place", .glo "BadText", .noat "BadText" "at", .noat "BadText" "what", .glo "NoMove", .noat "NoMove" "what", .glo "NoStep", .noat "NoStep" "name", .glo "NoWay", .noat "NoWay" "stand", .glo "NoneFits", .noat "NoneFits" "place", .noat "NoneFits" "other", .glo "NotEven", .noat "NotEven" "member", .glo "NotLet", .noat "NotLet" "what", .glo "NotTest", .noat "NotTest" "name", .glo "Spoilt", .noat "Spoilt" "place", .glo "TooMany", .noat "TooMany" "most", .glo "BadKind", .exc "BadKind", .glo "BadLot", .exc "BadLot", .glo "BadManner", .exc "BadManner", .glo "BadMost", .exc "BadMost", .glo "BadSide", .exc "BadSide", .glo "BadStands", .exc "BadStands", .glo "CheckerError", .exc "CheckerError", .glo "NoCounter", .exc "NoCounter", .glo "NoDeed", .exc "NoDeed", .glo "NoMember", .exc "NoMember", .glo "NotAgain", .exc "NotAgain", .glo "NotAll", .exc "NotAll", .glo "UnlikeStands", .exc "UnlikeStands", .glo "_law_hand", .glo "_law_mixed", .glo "_law_take", .glo "_law_int", .glo "_law_exact", .glo "_law_bare", .glo "_law_singles", .glo "_law_pairs", .glo "_law_classes_of", .glo "law"]
def exs : List (PySem.W.Frag → Bool) := [(fun K => oexB K (He.ga K "BadCells")), (fun K => xinB K (He.ga K "BadCells")), (fun K => xtyB K (He.ga K "BadCells")), (fun K => oexB K (He.ga K "BadDemand")), (fun K => xinB K (He.ga K "BadDemand")), (fun K => xtyB K (He.ga K "BadDemand")), (fun K => oexB K (He.ga K "BadEdit")), (fun K => xinB K (He.ga K "BadEdit")), (fun K => xtyB K (He.ga K "BadEdit")), (fun K => oexB K (He.ga K "BadFact")), (fun K => xinB K (He.ga K "BadFact")), (fun K => xtyB K (He.ga K "BadFact")), (fun K => oexB K (He.ga K "BadGlasses")), (fun K => xinB K (He.ga K "BadGlasses")), (fun K => xtyB K (He.ga K "BadGlasses")), (fun K => oexB K (He.ga K "BadLines")), (fun K => xinB K (He.ga K "BadLines")), (fun K => xtyB K (He.ga K "BadLines")), (fun K => oexB K (He.ga K "BadMove")), (fun K => xinB K (He.ga K "BadMove")), (fun K => xtyB K (He.ga K "BadMove")), (fun K => oexB K (He.ga K "BadPair")), (fun K => xinB K (He.ga K "BadPair")), (fun K => xtyB K (He.ga K "BadPair")), (fun K => oexB K (He.ga K "BadProgram")), (fun K => xinB K (He.ga K "BadProgram")), (fun K => xtyB K (He.ga K "BadProgram")), (fun K => oexB K (He.ga K "BadRewriting")), (fun K => xinB K (He.ga K "BadRewriting")), (fun K => xtyB K (He.ga K "BadRewriting")), (fun K => oexB K (He.ga K "BadRow")), (fun K => xinB K (He.ga K "BadRow")), (fun K => xtyB K (He.ga K "BadRow")), (fun K => oexB K (He.ga K "BadStand")), (fun K => xinB K (He.ga K "BadStand")), (fun K => xtyB K (He.ga K "BadStand")), (fun K => oexB K (He.ga K "BadSteps")), (fun K => xinB K (He.ga K "BadSteps")), (fun K => xtyB K (He.ga K "BadSteps")), (fun K => oexB K (He.ga K "BadText")), (fun K => xinB K (He.ga K "BadText")), (fun K => xtyB K (He.ga K "BadText")), (fun K => oexB K (He.ga K "NoMove")), (fun K => xinB K (He.ga K "NoMove")), (fun K => xtyB K (He.ga K "NoMove")), (fun K => oexB K (He.ga K "NoStep")), (fun K => xinB K (He.ga K "NoStep")), (fun K => xtyB K (He.ga K "NoStep")), (fun K => oexB K (He.ga K "NoWay")), (fun K => xinB K (He.ga K "NoWay")), (fun K => xtyB K (He.ga K "NoWay")), (fun K => oexB K (He.ga K "NoneFits")), (fun K => xinB K (He.ga K "NoneFits")), (fun K => xtyB K (He.ga K "NoneFits")), (fun K => oexB K (He.ga K "NotEven")), (fun K => xinB K (He.ga K "NotEven")), (fun K => xtyB K (He.ga K "NotEven")), (fun K => oexB K (He.ga K "NotLet")), (fun K => xinB K (He.ga K "NotLet")), (fun K => xtyB K (He.ga K "NotLet")), (fun K => oexB K (He.ga K "NotTest")), (fun K => xinB K (He.ga K "NotTest")), (fun K => xtyB K (He.ga K "NotTest")), (fun K => oexB K (He.ga K "Spoilt")), (fun K => xinB K (He.ga K "Spoilt")), (fun K => xtyB K (He.ga K "Spoilt")), (fun K => oexB K (He.ga K "TooMany")), (fun K => xinB K (He.ga K "TooMany")), (fun K => xtyB K (He.ga K "TooMany")), (fun K => xfsB K (He.ga K) xn_at "at"), (fun K => xfsB K (He.ga K) xn_index "index"), (fun K => xfsB K (He.ga K) xn_member "member"), (fun K => xfsB K (He.ga K) xn_most "most"), (fun K => xfsB K (He.ga K) xn_name "name"), (fun K => xfsB K (He.ga K) xn_number "number"), (fun K => xfsB K (He.ga K) xn_other "other"), (fun K => xfsB K (He.ga K) xn_place "place"), (fun K => xfsB K (He.ga K) xn_stand "stand"), (fun K => xfsB K (He.ga K) xn_what "what"), (fun K => xfsB K (He.ga K) xn_word "word"), (fun K => xcsB K (He.ga K) xnS), (fun K => ixB K (He.ga K) (.ref (He.ga K "BadCells")) xnS xs_BadCells), (fun K => ixB K (He.ga K) (.ref (He.ga K "BadDemand")) xnS xs_BadDemand), (fun K => ixB K (He.ga K) (.ref (He.ga K "BadEdit")) xnS xs_BadEdit), (fun K => ixB K (He.ga K) (.ref (He.ga K "BadFact")) xnS xs_BadFact), (fun K => ixB K (He.ga K) (.ref (He.ga K "BadGlasses")) xnS xs_BadGlasses), (fun K => ixB K (He.ga K) (.ref (He.ga K "BadKind")) xnS xs_BadKind), (fun K => ixB K (He.ga K) (.ref (He.ga K "BadLines")) xnS xs_BadLines), (fun K => ixB K (He.ga K) (.ref (He.ga K "BadLot")) xnS xs_BadLot), (fun K => ixB K (He.ga K) (.ref (He.ga K "BadManner")) xnS xs_BadManner), (fun K => ixB K (He.ga K) (.ref (He.ga K "BadMost")) xnS xs_BadMost), (fun K => ixB K (He.ga K) (.ref (He.ga K "BadMove")) xnS xs_BadMove), (fun K => ixB K (He.ga K) (.ref (He.ga K "BadPair")) xnS xs_BadPair), (fun K => ixB K (He.ga K) (.ref (He.ga K "BadProgram")) xnS xs_BadProgram), (fun K => ixB K (He.ga K) (.ref (He.ga K "BadRewriting")) xnS xs_BadRewriting), (fun K => ixB K (He.ga K) (.ref (He.ga K "BadRow")) xnS xs_BadRow), (fun K => ixB K (He.ga K) (.ref (He.ga K "BadSide")) xnS xs_BadSide), (fun K => ixB K (He.ga K) (.ref (He.ga K "BadStand")) xnS xs_BadStand), (fun K => ixB K (He.ga K) (.ref (He.ga K "BadStands")) xnS xs_BadStands), (fun K => ixB K (He.ga K) (.ref (He.ga K "BadSteps")) xnS xs_BadSteps), (fun K => ixB K (He.ga K) (.ref (He.ga K "BadText")) xnS xs_BadText), (fun K => ixB K (He.ga K) (.ref (He.ga K "CheckerError")) xnS xs_CheckerError), (fun K => ixB K (He.ga K) (.ref (He.ga K "NoCounter")) xnS xs_NoCounter), (fun K => ixB K (He.ga K) (.ref (He.ga K "NoDeed")) xnS xs_NoDeed), (fun K => ixB K (He.ga K) (.ref (He.ga K "NoMember")) xnS xs_NoMember), (fun K => ixB K (He.ga K) (.ref (He.ga K "NoMove")) xnS xs_NoMove), (fun K => ixB K (He.ga K) (.ref (He.ga K "NoStep")) xnS xs_NoStep), (fun K => ixB K (He.ga K) (.ref (He.ga K "NoWay")) xnS xs_NoWay), (fun K => ixB K (He.ga K) (.ref (He.ga K "NoneFits")) xnS xs_NoneFits), (fun K => ixB K (He.ga K) (.ref (He.ga K "NotAgain")) xnS xs_NotAgain), (fun K => ixB K (He.ga K) (.ref (He.ga K "NotAll")) xnS xs_NotAll), (fun K => ixB K (He.ga K) (.ref (He.ga K "NotEven")) xnS xs_NotEven), (fun K => ixB K (He.ga K) (.ref (He.ga K "NotLet")) xnS xs_NotLet), (fun K => ixB K (He.ga K) (.ref (He.ga K "NotTest")) xnS xs_NotTest), (fun K => ixB K (He.ga K) (.ref (He.ga K "Spoilt")) xnS xs_Spoilt), (fun K => ixB K (He.ga K) (.ref (He.ga K "TooMany")) xnS xs_TooMany), (fun K => ixB K (He.ga K) (.ref (He.ga K "UnlikeStands")) xnS xs_UnlikeStands), (fun K => ixB K (He.ga K) (.type "ValueError") xnS xs_ValueError)]
def d__law_hand : He5.DefA := ⟨fun K => He.ga K "_law_hand", "_law_hand", "_law_hand", defArgs s__law_hand, defBody s__law_hand, defScope s__law_hand, [], []⟩
def d__law_mixed : He5.DefA := ⟨fun K => He.ga K "_law_mixed", "_law_mixed", "_law_mixed", defArgs s__law_mixed, defBody s__law_mixed, defScope s__law_mixed, [], []⟩
def d__law_take : He5.DefA := ⟨fun K => He.ga K "_law_take", "_law_take", "_law_take", defArgs s__law_take, defBody s__law_take, defScope s__law_take, [], []⟩
def d__law_int : He5.DefA := ⟨fun K => He.ga K "_law_int", "_law_int", "_law_int", defArgs s__law_int, defBody s__law_int, defScope s__law_int, [], []⟩
def d__law_exact : He5.DefA := ⟨fun K => He.ga K "_law_exact", "_law_exact", "_law_exact", defArgs s__law_exact, defBody s__law_exact, defScope s__law_exact, [], []⟩
def d__law_bare : He5.DefA := ⟨fun K => He.ga K "_law_bare", "_law_bare", "_law_bare", defArgs s__law_bare, defBody s__law_bare, defScope s__law_bare, [], []⟩
def d__law_singles : He5.DefA := ⟨fun K => He.ga K "_law_singles", "_law_singles", "_law_singles", defArgs s__law_singles, defBody s__law_singles, defScope s__law_singles, [], []⟩
def d__law_pairs : He5.DefA := ⟨fun K => He.ga K "_law_pairs", "_law_pairs", "_law_pairs", defArgs s__law_pairs, defBody s__law_pairs, defScope s__law_pairs, [], []⟩
def d__law_classes_of : He5.DefA := ⟨fun K => He.ga K "_law_classes_of", "_law_classes_of", "_law_classes_of", defArgs s__law_classes_of, defBody s__law_classes_of, defScope s__law_classes_of, [], []⟩
def d_law : He5.DefA := ⟨fun K => He.ga K "law", "law", "law", defArgs s_law, defBody s_law, defScope s_law, [], []⟩
def d_x_BadCells : He5.DefA := ⟨fun K => He.ma K (He.ga K "BadCells") "__init__", "__init__", "BadCells.__init__", defArgs s_x_BadCells, defBody s_x_BadCells, defScope s_x_BadCells, [], []⟩
def d_x_BadDemand : He5.DefA := ⟨fun K => He.ma K (He.ga K "BadDemand") "__init__", "__init__", "BadDemand.__init__", defArgs s_x_BadDemand, defBody s_x_BadDemand, defScope s_x_BadDemand, [], []⟩
def d_x_BadEdit : He5.DefA := ⟨fun K => He.ma K (He.ga K "BadEdit") "__init__", "__init__", "BadEdit.__init__", defArgs s_x_BadEdit, defBody s_x_BadEdit, defScope s_x_BadEdit, [], []⟩
def d_x_BadFact : He5.DefA := ⟨fun K => He.ma K (He.ga K "BadFact") "__init__", "__init__", "BadFact.__init__", defArgs s_x_BadFact, defBody s_x_BadFact, defScope s_x_BadFact, [], []⟩
def d_x_BadGlasses : He5.DefA := ⟨fun K => He.ma K (He.ga K "BadGlasses") "__init__", "__init__", "BadGlasses.__init__", defArgs s_x_BadGlasses, defBody s_x_BadGlasses, defScope s_x_BadGlasses, [], []⟩
def d_x_BadLines : He5.DefA := ⟨fun K => He.ma K (He.ga K "BadLines") "__init__", "__init__", "BadLines.__init__", defArgs s_x_BadLines, defBody s_x_BadLines, defScope s_x_BadLines, [], []⟩
def d_x_BadMove : He5.DefA := ⟨fun K => He.ma K (He.ga K "BadMove") "__init__", "__init__", "BadMove.__init__", defArgs s_x_BadMove, defBody s_x_BadMove, defScope s_x_BadMove, [], []⟩
def d_x_BadPair : He5.DefA := ⟨fun K => He.ma K (He.ga K "BadPair") "__init__", "__init__", "BadPair.__init__", defArgs s_x_BadPair, defBody s_x_BadPair, defScope s_x_BadPair, [], []⟩
def d_x_BadProgram : He5.DefA := ⟨fun K => He.ma K (He.ga K "BadProgram") "__init__", "__init__", "BadProgram.__init__", defArgs s_x_BadProgram, defBody s_x_BadProgram, defScope s_x_BadProgram, [], []⟩
def d_x_BadRewriting : He5.DefA := ⟨fun K => He.ma K (He.ga K "BadRewriting") "__init__", "__init__", "BadRewriting.__init__", defArgs s_x_BadRewriting, defBody s_x_BadRewriting, defScope s_x_BadRewriting, [], []⟩
def d_x_BadRow : He5.DefA := ⟨fun K => He.ma K (He.ga K "BadRow") "__init__", "__init__", "BadRow.__init__", defArgs s_x_BadRow, defBody s_x_BadRow, defScope s_x_BadRow, [], []⟩
def d_x_BadStand : He5.DefA := ⟨fun K => He.ma K (He.ga K "BadStand") "__init__", "__init__", "BadStand.__init__", defArgs s_x_BadStand, defBody s_x_BadStand, defScope s_x_BadStand, [], []⟩
def d_x_BadSteps : He5.DefA := ⟨fun K => He.ma K (He.ga K "BadSteps") "__init__", "__init__", "BadSteps.__init__", defArgs s_x_BadSteps, defBody s_x_BadSteps, defScope s_x_BadSteps, [], []⟩
def d_x_BadText : He5.DefA := ⟨fun K => He.ma K (He.ga K "BadText") "__init__", "__init__", "BadText.__init__", defArgs s_x_BadText, defBody s_x_BadText, defScope s_x_BadText, [], []⟩
def d_x_NoMove : He5.DefA := ⟨fun K => He.ma K (He.ga K "NoMove") "__init__", "__init__", "NoMove.__init__", defArgs s_x_NoMove, defBody s_x_NoMove, defScope s_x_NoMove, [], []⟩
def d_x_NoStep : He5.DefA := ⟨fun K => He.ma K (He.ga K "NoStep") "__init__", "__init__", "NoStep.__init__", defArgs s_x_NoStep, defBody s_x_NoStep, defScope s_x_NoStep, [], []⟩
def d_x_NoWay : He5.DefA := ⟨fun K => He.ma K (He.ga K "NoWay") "__init__", "__init__", "NoWay.__init__", defArgs s_x_NoWay, defBody s_x_NoWay, defScope s_x_NoWay, [], []⟩
def d_x_NoneFits : He5.DefA := ⟨fun K => He.ma K (He.ga K "NoneFits") "__init__", "__init__", "NoneFits.__init__", defArgs s_x_NoneFits, defBody s_x_NoneFits, defScope s_x_NoneFits, [], []⟩
def d_x_NotEven : He5.DefA := ⟨fun K => He.ma K (He.ga K "NotEven") "__init__", "__init__", "NotEven.__init__", defArgs s_x_NotEven, defBody s_x_NotEven, defScope s_x_NotEven, [], []⟩
def d_x_NotLet : He5.DefA := ⟨fun K => He.ma K (He.ga K "NotLet") "__init__", "__init__", "NotLet.__init__", defArgs s_x_NotLet, defBody s_x_NotLet, defScope s_x_NotLet, [], []⟩
def d_x_NotTest : He5.DefA := ⟨fun K => He.ma K (He.ga K "NotTest") "__init__", "__init__", "NotTest.__init__", defArgs s_x_NotTest, defBody s_x_NotTest, defScope s_x_NotTest, [], []⟩
def d_x_Spoilt : He5.DefA := ⟨fun K => He.ma K (He.ga K "Spoilt") "__init__", "__init__", "Spoilt.__init__", defArgs s_x_Spoilt, defBody s_x_Spoilt, defScope s_x_Spoilt, [], []⟩
def d_x_TooMany : He5.DefA := ⟨fun K => He.ma K (He.ga K "TooMany") "__init__", "__init__", "TooMany.__init__", defArgs s_x_TooMany, defBody s_x_TooMany, defScope s_x_TooMany, [], []⟩
def fn : List He5.DefA := [d__law_hand, d__law_mixed, d__law_take, d__law_int, d__law_exact, d__law_bare, d__law_singles, d__law_pairs, d__law_classes_of, d_law, d_x_BadCells, d_x_BadDemand, d_x_BadEdit, d_x_BadFact, d_x_BadGlasses, d_x_BadLines, d_x_BadMove, d_x_BadPair, d_x_BadProgram, d_x_BadRewriting, d_x_BadRow, d_x_BadStand, d_x_BadSteps, d_x_BadText, d_x_NoMove, d_x_NoStep, d_x_NoWay, d_x_NoneFits, d_x_NotEven, d_x_NotLet, d_x_NotTest, d_x_Spoilt, d_x_TooMany]
abbrev R : PySem.W.OpenRow := PySem.W.OpenLaw.row PySem.Challenge.rw_truealarms_k61_errors_side_by_side
def tabs : List He.Tab := []
def adr : List Addr := List.range 720
abbrev hk : PySem.W.Hook := hookL adr fa fn exs tabs
def ob (s : PySem.W.SharedT) : AlY := obsLG adr fa fn exs tabs (HandSHeadRun.getT s)
theorem ob_eq (s : PySem.W.SharedT) : ob s = hk.obs s.abs := obsLG_eq (HandSHeadRun.getT_eq s)
def loose0 : List Str := ["CheckerError", "BadStands", "BadLot", "BadGlasses", "NoMember", "UnlikeStands", "TooMany", "BadText", "BadRow", "BadSteps", "NoStep", "BadProgram"]
def loose1 : List Str := ["BadStand", "NoWay", "NotAgain", "BadKind", "BadLines", "NotLet", "BadRewriting", "NoMove", "BadMove", "BadManner", "NotTest", "NotAll"]
def loose2 : List Str := ["NoCounter", "BadMost", "BadCells", "NotEven", "BadPair", "BadSide", "BadFact", "NoneFits", "BadEdit", "Spoilt", "BadDemand", "NoDeed"]
def loose3 : List Str := ["_law_hand", "_law_mixed", "_law_take", "_law_int", "_law_exact", "_law_bare", "_law_singles", "_law_pairs", "_law_classes_of"]
def loose : List Str := loose0 ++ loose1 ++ loose2 ++ loose3
section
open PySem PySem.W PySem.Calls PyProof.Rows HandSHeadRun
theorem opt3 {α β γ δ : Type} {o : Option α} {f : α → β} {g : α → γ} {h : α → δ} {b : β} {c : γ} {d : δ} (h1 : o.map f = some b) (h2 : o.map g = some c) (h3 : o.map h = some d) : o.map (fun s => (f s, g s, h s)) = some (b, c, d) := by
  cases o with
  | none => cases h1
  | some x =>
    rw [← (Option.some.inj h1 : f x = b), ← (Option.some.inj h2 : g x = c), ← (Option.some.inj h3 : h x = d)]
    rfl
theorem run1 (w : World) (os : OsState) : (endF (stepQ (denQ tabQ) R.prog w) 9200 R.prog w os).map (fun s => looksF R.prog (boot_heap w.params) s.abs) = some true := by kernel_rfl
theorem run2 (w : World) (os : OsState) : (endF (stepQ (denQ tabQ) R.prog w) 9200 R.prog w os).map (fun s => seenQ (PySem.W.view R.prog [47]) loose (importedModules R.prog.main.body) (fun s => xlAt (PySem.W.view R.prog [47]) [] s && recOk R.toRowW.records s) s.abs) = some (openGood (PySem.W.view R.prog [47]) loose) := by kernel_rfl
theorem run3 (w : World) (os : OsState) : (endF (stepQ (denQ tabQ) R.prog w) 9200 R.prog w os).map ob = some (valY fn tabs w) := by kernel_rfl
theorem run (w : World) : HandSHeadRun.RunEq R (PySem.W.view R.prog [47]) hk ob 9200 loose w := fun os => opt3 (run1 w os) (run2 w os) (run3 w os)
end
/-! ### what the defs do -/
def B__law_hand_0 : DS := (sSeq (sSet 1 (dBin (gI cPos fun i j => i % j) (dCallB gInt1 (dCons (dBin gAdd (dBin (gI cMul fun i j => i * j) (dVar 1) (dC (.int 1721))) (dCallB gInt1 (dCons (dVar 3) dNil))) dNil)) (dC (.int 2147483549)))) (sApp 2 (dCallB gAbs (dCons (dCallB gInt1 (dCons (dVar 3) dNil)) dNil))))
def F__law_hand : DS := (sSeq (sSet 1 (dBin gAdd (dLenV 0) (dC (.int 41)))) (sSeq (sSetO 2 (dLst dNil)) (sSeq (sFor (dIt (dVar 0)) (setV 3) B__law_hand_0) (sRetO (dLst (dCons (dVar 2) (dCons (dC (.int 0)) (dCons (dC (.int 0)) (dCons (dVar 1) dNil)))))))))
def fn__law_hand : List D → FO := defF [false] 4 F__law_hand
def F__law_mixed : DS := (sSeq (sSet 2 (dBin (gI cPos fun i j => i % j) (dCallB gInt1 (dCons (dBin gAdd (dBin gAdd (dBin (gI cMul fun i j => i * j) (dVar 0) (dC (.int 48271))) (dBin (gI cMul fun i j => i * j) (dVar 1) (dC (.int 7919)))) (dC (.int 30011))) dNil)) (dC (.int 2147483399)))) (sSeq (sSet 3 (dBin (gI cPos fun i j => i % j) (dCallB gInt1 (dCons (dBin gAdd (dBin gAdd (dBin (gI cMul fun i j => i * j) (dVar 2) (dVar 2)) (dBin (gI cMul fun i j => i * j) (dVar 1) (dC (.int 92821)))) (dBin (gI cDiv fun i j => i / j) (dVar 2) (dC (.int 131)))) dNil)) (dC (.int 2147483629)))) (sRet (dBin (gI cDiv fun i j => i / j) (dCallB gInt1 (dCons (dBin (gI cPos fun i j => i % j) (dCallB gInt1 (dCons (dBin gAdd (dBin (gI cMul fun i j => i * j) (dVar 3) (dC (.int 69621))) (dBin (gI cDiv fun i j => i / j) (dVar 2) (dC (.int 13)))) dNil)) (dC (.int 2147483587))) dNil)) (dC (.int 32))))))
def fn__law_mixed : List D → FO := defF [false, false] 4 F__law_mixed
def F__law_take : DS := (sSeq (sIf (tAndD (dTest (dBin (gEq false) (dIxV 0 (dC (.int 2))) (dC (.int 0)))) (dTest (dBin (gB fun i j => decide (i < j)) (dIxV 0 (dC (.int 1))) (dCallB gLen (dCons (dIxV 0 (dC (.int 0))) dNil))))) (sSeq (sSet 2 (dBin idxD (dIxV 0 (dC (.int 0))) (dIxV 0 (dC (.int 1))))) (sSeq (sPut 0 (dBin gAdd (dIxV 0 (dC (.int 1))) (dC (.int 1))) (dC (.int 1))) (sSeq (sIf (dTest (dBin (gB fun i j => decide (i < j)) (dVar 2) (dBin (gI cPow fun i j => i ^ j.toNat) (dC (.int 10)) (dC (.int 18))))) (sRet (dBin (gI cPos fun i j => i % j) (dCallB gInt1 (dCons (dCall [false, false] [] fn__law_mixed (dCons (dBin (gI cPos fun i j => i % j) (dCallB gInt1 (dCons (dVar 2) dNil)) (dC (.int 2147483399))) (dCons (dIxV 0 (dC (.int 1))) dNil))) dNil)) (dVar 1))) sNil) (sPut 0 (dVar 2) (dC (.int 2)))))) sNil) (sSeq (sIf (dTest (dBin (gB fun i j => decide (j < i)) (dIxV 0 (dC (.int 2))) (dC (.int 0)))) (sSeq (sSet 3 (dIxV 0 (dC (.int 2)))) (sSeq (sPut 0 (dBin (gI cDiv fun i j => i / j) (dCallB gInt1 (dCons (dVar 3) dNil)) (dVar 1)) (dC (.int 2))) (sRet (dBin (gI cPos fun i j => i % j) (dCallB gInt1 (dCons (dVar 3) dNil)) (dVar 1))))) sNil) (sSeq (sPut 0 (dBin (gI cPos fun i j => i % j) (dCallB gInt1 (dCons (dBin gAdd (dIxV 0 (dC (.int 3))) (dC (.int 1))) dNil)) (dC (.int 2147483549))) (dC (.int 3))) (sRet (dBin (gI cPos fun i j => i % j) (dCallB gInt1 (dCons (dCall [false, false] [] fn__law_mixed (dCons (dIxV 0 (dC (.int 3))) (dCons (dIxV 0 (dC (.int 1))) dNil))) dNil)) (dVar 1))))))
def fn__law_take : List D → FO := defF [true, false] 4 F__law_take
def F__law_int : DS := (sRet (dAnd (dIsi ["int"] (dVar 0)) (dNot (dIsi ["bool"] (dVar 0)))))
def fn__law_int : List D → FO := defF [false] 1 F__law_int
def Q__law_exact_0 (self : List D → FO) : DT := (tNotD (dTru (dCall [false, false] [] self (dCons (dIxV 0 (dVar 2)) (dCons (dIxV 1 (dVar 2)) dNil)))))
def E__law_exact_0 (self : List D → FO) : DE := (dVar 2)
def F__law_exact (self : List D → FO) : DS := (sSeq (sIf (dTru (dIsi ["tuple"] (dVar 1))) (sSeq (sIf (tOrD (tNotD (dTru (dIsi ["tuple"] (dVar 0)))) (dTest (dBin (gEq true) (dLenV 0) (dLenV 1)))) (sRet (dC (.bl false))) sNil) (sRet (dBin (gEq false) (dComp (dRg1 (dLenV 1)) (setV 2) (Q__law_exact_0 self) (E__law_exact_0 self) [2]) (dLst dNil)))) sNil) (sSeq (sIf (dTest (dBin (gIs false) (dVar 1) (dC .non))) (sRet (dBin (gIs false) (dVar 0) (dC .non))) sNil) (sSeq (sIf (dTru (dIsi ["bool"] (dVar 1))) (sRet (dIf (dTruV 1) (dBin (gIs false) (dVar 0) (dC (.bl true))) (dBin (gIs false) (dVar 0) (dC (.bl false))))) sNil) (sSeq (sIf (dTru (dIsi ["str"] (dVar 1))) (sRet (dAnd (dIsi ["str"] (dVar 0)) (dBin (gEq false) (dVar 0) (dVar 1)))) sNil) (sRet (dAnd (dCall [false] [] fn__law_int (dCons (dVar 0) dNil)) (dBin (gEq false) (dVar 0) (dVar 1))))))))
def fn__law_exact : Nat → List D → FO
  | 0 => fun _ => .st
  | n + 1 => defF [false, false] 3 (F__law_exact (fn__law_exact n))
def F__law_bare : DS := (sSeq (sSet 0 (dLst (dCons (dMk0 "BadStands") (dCons (dMk0 "BadLot") (dCons (dMk0 "NoMember") (dCons (dMk0 "UnlikeStands") (dCons (dMk0 "NotAgain") (dCons (dMk0 "BadKind") (dCons (dMk0 "BadManner") (dCons (dMk0 "NotAll") (dCons (dMk0 "NoCounter") dNil))))))))))) (sRet (dBin gAdd (dVar 0) (dLst (dCons (dMk0 "BadMost") (dCons (dMk0 "BadSide") (dCons (dMk0 "NoDeed") dNil)))))))
def fn__law_bare : List D → FO := defF [] 1 F__law_bare
def F__law_singles : DS := (sSeq (sSet 1 (dLst (dCons (dMkF "TooMany" ["most"] (dCons (dVar 0) dNil)) (dCons (dMkF "BadRow" ["place"] (dCons (dVar 0) dNil)) (dCons (dMkF "NoStep" ["name"] (dCons (dVar 0) dNil)) (dCons (dMkF "BadProgram" ["what"] (dCons (dVar 0) dNil)) (dCons (dMkF "BadStand" ["stand"] (dCons (dVar 0) dNil)) (dCons (dMkF "NoWay" ["stand"] (dCons (dVar 0) dNil)) (dCons (dMkF "NotLet" ["what"] (dCons (dVar 0) dNil)) (dCons (dMkF "BadRewriting" ["what"] (dCons (dVar 0) dNil)) dNil)))))))))) (sSeq (sSet 2 (dLst (dCons (dXfv xn_most "most" (dIxV 1 (dC (.int 0)))) (dCons (dXfv xn_place "place" (dIxV 1 (dC (.int 1)))) (dCons (dXfv xn_name "name" (dIxV 1 (dC (.int 2)))) (dCons (dXfv xn_what "what" (dIxV 1 (dC (.int 3)))) (dCons (dXfv xn_stand "stand" (dIxV 1 (dC (.int 4)))) (dCons (dXfv xn_stand "stand" (dIxV 1 (dC (.int 5)))) (dCons (dXfv xn_what "what" (dIxV 1 (dC (.int 6)))) (dCons (dXfv xn_what "what" (dIxV 1 (dC (.int 7)))) dNil)))))))))) (sSeq (sSet 3 (dLst (dCons (dMkF "NoMove" ["what"] (dCons (dVar 0) dNil)) (dCons (dMkF "NotTest" ["name"] (dCons (dVar 0) dNil)) (dCons (dMkF "NotEven" ["member"] (dCons (dVar 0) dNil)) (dCons (dMkF "BadPair" ["what"] (dCons (dVar 0) dNil)) (dCons (dMkF "BadFact" ["place"] (dCons (dVar 0) dNil)) (dCons (dMkF "Spoilt" ["place"] (dCons (dVar 0) dNil)) (dCons (dMkF "BadDemand" ["place"] (dCons (dVar 0) dNil)) dNil))))))))) (sSeq (sSet 2 (dBin gAdd (dVar 2) (dLst (dCons (dXfv xn_what "what" (dIxV 3 (dC (.int 0)))) (dCons (dXfv xn_name "name" (dIxV 3 (dC (.int 1)))) (dCons (dXfv xn_member "member" (dIxV 3 (dC (.int 2)))) (dCons (dXfv xn_what "what" (dIxV 3 (dC (.int 3)))) (dCons (dXfv xn_place "place" (dIxV 3 (dC (.int 4)))) (dCons (dXfv xn_place "place" (dIxV 3 (dC (.int 5)))) (dCons (dXfv xn_place "place" (dIxV 3 (dC (.int 6)))) dNil)))))))))) (sRet (dLst (dCons (dBin gAdd (dVar 1) (dVar 3)) (dCons (dVar 2) dNil))))))))
def fn__law_singles : List D → FO := defF [false] 4 F__law_singles
def F__law_pairs : DS := (sSeq (sSet 2 (dLst (dCons (dMkF "BadGlasses" ["what", "place"] (dCons (dVar 0) (dCons (dVar 1) dNil))) (dCons (dMkF "BadText" ["at", "what"] (dCons (dVar 0) (dCons (dVar 1) dNil))) (dCons (dMkF "BadSteps" ["what", "place"] (dCons (dVar 0) (dCons (dVar 1) dNil))) (dCons (dMkF "BadLines" ["number", "word"] (dCons (dVar 0) (dCons (dVar 1) dNil))) (dCons (dMkF "BadMove" ["index", "what"] (dCons (dVar 0) (dCons (dVar 1) dNil))) (dCons (dMkF "BadCells" ["what", "place"] (dCons (dVar 0) (dCons (dVar 1) dNil))) (dCons (dMkF "NoneFits" ["place", "other"] (dCons (dVar 0) (dCons (dVar 1) dNil))) (dCons (dMkF "BadEdit" ["place", "what"] (dCons (dVar 0) (dCons (dVar 1) dNil))) dNil)))))))))) (sSeq (sSet 3 (dLst (dCons (dTup (dCons (dXfv xn_what "what" (dIxV 2 (dC (.int 0)))) (dCons (dXfv xn_place "place" (dIxV 2 (dC (.int 0)))) dNil))) (dCons (dTup (dCons (dXfv xn_at "at" (dIxV 2 (dC (.int 1)))) (dCons (dXfv xn_what "what" (dIxV 2 (dC (.int 1)))) dNil))) (dCons (dTup (dCons (dXfv xn_what "what" (dIxV 2 (dC (.int 2)))) (dCons (dXfv xn_place "place" (dIxV 2 (dC (.int 2)))) dNil))) (dCons (dTup (dCons (dXfv xn_number "number" (dIxV 2 (dC (.int 3)))) (dCons (dXfv xn_word "word" (dIxV 2 (dC (.int 3)))) dNil))) dNil)))))) (sSeq (sSet 3 (dBin gAdd (dVar 3) (dLst (dCons (dTup (dCons (dXfv xn_index "index" (dIxV 2 (dC (.int 4)))) (dCons (dXfv xn_what "what" (dIxV 2 (dC (.int 4)))) dNil))) (dCons (dTup (dCons (dXfv xn_what "what" (dIxV 2 (dC (.int 5)))) (dCons (dXfv xn_place "place" (dIxV 2 (dC (.int 5)))) dNil))) (dCons (dTup (dCons (dXfv xn_place "place" (dIxV 2 (dC (.int 6)))) (dCons (dXfv xn_other "other" (dIxV 2 (dC (.int 6)))) dNil))) dNil)))))) (sRet (dLst (dCons (dVar 2) (dCons (dBin gAdd (dVar 3) (dLst (dCons (dTup (dCons (dXfv xn_place "place" (dIxV 2 (dC (.int 7)))) (dCons (dXfv xn_what "what" (dIxV 2 (dC (.int 7)))) dNil))) dNil))) dNil)))))))
def fn__law_pairs : List D → FO := defF [false, false] 4 F__law_pairs
def F__law_classes_of : DS := (sSeq (sSet 1 (dLst (dCons (dIxv (xtab xnS xs_BadStands) (dVar 0)) (dCons (dIxv (xtab xnS xs_BadLot) (dVar 0)) (dCons (dIxv (xtab xnS xs_NoMember) (dVar 0)) (dCons (dIxv (xtab xnS xs_UnlikeStands) (dVar 0)) dNil)))))) (sSeq (sSet 1 (dBin gAdd (dVar 1) (dLst (dCons (dIxv (xtab xnS xs_NotAgain) (dVar 0)) (dCons (dIxv (xtab xnS xs_BadKind) (dVar 0)) (dCons (dIxv (xtab xnS xs_BadManner) (dVar 0)) (dCons (dIxv (xtab xnS xs_NotAll) (dVar 0)) dNil))))))) (sSeq (sSet 1 (dBin gAdd (dVar 1) (dLst (dCons (dIxv (xtab xnS xs_NoCounter) (dVar 0)) (dCons (dIxv (xtab xnS xs_BadMost) (dVar 0)) (dCons (dIxv (xtab xnS xs_BadSide) (dVar 0)) (dCons (dIxv (xtab xnS xs_NoDeed) (dVar 0)) dNil))))))) (sSeq (sSet 1 (dBin gAdd (dVar 1) (dLst (dCons (dIxv (xtab xnS xs_TooMany) (dVar 0)) (dCons (dIxv (xtab xnS xs_BadRow) (dVar 0)) (dCons (dIxv (xtab xnS xs_NoStep) (dVar 0)) (dCons (dIxv (xtab xnS xs_BadProgram) (dVar 0)) dNil))))))) (sSeq (sSet 1 (dBin gAdd (dVar 1) (dLst (dCons (dIxv (xtab xnS xs_BadStand) (dVar 0)) (dCons (dIxv (xtab xnS xs_NoWay) (dVar 0)) (dCons (dIxv (xtab xnS xs_NotLet) (dVar 0)) (dCons (dIxv (xtab xnS xs_BadRewriting) (dVar 0)) dNil))))))) (sSeq (sSet 1 (dBin gAdd (dVar 1) (dLst (dCons (dIxv (xtab xnS xs_NoMove) (dVar 0)) (dCons (dIxv (xtab xnS xs_NotTest) (dVar 0)) (dCons (dIxv (xtab xnS xs_NotEven) (dVar 0)) (dCons (dIxv (xtab xnS xs_BadPair) (dVar 0)) dNil))))))) (sSeq (sSet 1 (dBin gAdd (dVar 1) (dLst (dCons (dIxv (xtab xnS xs_BadFact) (dVar 0)) (dCons (dIxv (xtab xnS xs_Spoilt) (dVar 0)) (dCons (dIxv (xtab xnS xs_BadDemand) (dVar 0)) (dCons (dIxv (xtab xnS xs_BadGlasses) (dVar 0)) dNil))))))) (sSeq (sSet 1 (dBin gAdd (dVar 1) (dLst (dCons (dIxv (xtab xnS xs_BadText) (dVar 0)) (dCons (dIxv (xtab xnS xs_BadSteps) (dVar 0)) (dCons (dIxv (xtab xnS xs_BadLines) (dVar 0)) (dCons (dIxv (xtab xnS xs_BadMove) (dVar 0)) dNil))))))) (sRet (dBin gAdd (dVar 1) (dLst (dCons (dIxv (xtab xnS xs_BadCells) (dVar 0)) (dCons (dIxv (xtab xnS xs_NoneFits) (dVar 0)) (dCons (dIxv (xtab xnS xs_BadEdit) (dVar 0)) dNil))))))))))))))
def fn__law_classes_of : List D → FO := defF [false] 2 F__law_classes_of
def E_law_0 : DE := (dVar 2)
def E_law_1 : DE := (dTup (dCons (dVar 2) (dCons (dVar 3) dNil)))
def Q_law_0 : DT := (dTest (dBin (gEq true) (dIxV 8 (dVar 10)) (dBin (gEq false) (dVar 10) (dVar 7))))
def E_law_2 : DE := (dVar 10)
def B_law_0 : DS := (sSeq (sIf (tOrD (tNotD (dTru (dIxv (xtab xnS xs_CheckerError) (dIxV 6 (dVar 7))))) (tNotD (dTru (dIxv (xtab xnS xs_ValueError) (dIxV 6 (dVar 7)))))) (sRet (dC (.bl false))) sNil) (sSeq (sSet 8 (dCall [false] [] fn__law_classes_of (dCons (dIxV 6 (dVar 7)) dNil))) (sIf (tOrD (dTest (dBin (gEq true) (dLenV 8) (dLenV 6))) (dTest (dBin (gEq true) (dComp (dRg1 (dLenV 8)) (setV 10) Q_law_0 E_law_2 [10]) (dLst dNil)))) (sRet (dC (.bl false))) sNil)))
def Q_law_1 : DT := (dTruV 11)
def E_law_3 : DE := (dVar 11)
def F_law : DS := (sSeq (sSetO 1 (dCallO [false] [] fn__law_hand (dCons (dVar 0) dNil))) (sSeq (sSet 2 (dBin (gI (fun _ _ => true) fun i j => i - j) (dCall [true, false] [] fn__law_take (dRefA 1 (dCons (dBin (gI cPow fun i j => i ^ j.toNat) (dC (.int 10)) (dC (.int 6))) dNil))) (dC (.int 500000)))) (sSeq (sSet 3 (dBin gAdd (dCall [true, false] [] fn__law_take (dRefA 1 (dCons (dBin (gI cPow fun i j => i ^ j.toNat) (dC (.int 10)) (dC (.int 6))) dNil))) (dC (.int 500001)))) (sSeq (sSet 4 (dCall [false] [] fn__law_singles (dCons (dVar 2) dNil))) (sSeq (sSet 5 (dCall [false, false] [] fn__law_pairs (dCons (dVar 2) (dCons (dVar 3) dNil)))) (sSeq (sIf (tNotD (dTru (dCall [false, false] [] (fn__law_exact 4) (dCons (dCallB gTuple (dCons (dIxV 4 (dC (.int 1))) dNil)) (dCons (dCallB gTuple (dCons (dComp (dIt (dIxV 4 (dC (.int 0)))) (setV 9) dYes E_law_0 [9]) dNil)) dNil))))) (sRet (dC (.bl false))) sNil) (sSeq (sIf (tNotD (dTru (dCall [false, false] [] (fn__law_exact 4) (dCons (dCallB gTuple (dCons (dIxV 5 (dC (.int 1))) dNil)) (dCons (dCallB gTuple (dCons (dComp (dIt (dIxV 5 (dC (.int 0)))) (setV 9) dYes E_law_1 [9]) dNil)) dNil))))) (sRet (dC (.bl false))) sNil) (sSeq (sSet 6 (dBin gAdd (dBin gAdd (dCall [] [] fn__law_bare dNil) (dIxV 4 (dC (.int 0)))) (dIxV 5 (dC (.int 0))))) (sSeq (sFor (dRg1 (dLenV 6)) (setV 7) B_law_0) (sRet (dBin (gEq false) (dComp (dIt (dCall [false] [] fn__law_classes_of (dCons (dMk0 "CheckerError") dNil))) (setV 11) Q_law_1 E_law_3 [11]) (dLst dNil))))))))))))
def fn_law : List D → FO := defF [false] 12 F_law
theorem o__law_int (x0 : D) : fn__law_int [x0] = toFO [false] (F__law_int [.val x0]) := (opn [false] [x0] 1 F__law_int rfl).trans (congrArg (fun e => toFO [false] (F__law_int e)) (rfl : mkEnv [false] [x0] 1 = [.val x0]))
theorem o__law_exact (n : Nat) (x0 x1 : D) : fn__law_exact (n + 1) [x0, x1] = toFO [false, false] ((F__law_exact (fn__law_exact n)) [.val x0, .val x1, .un]) := (opn [false, false] [x0, x1] 3 (F__law_exact (fn__law_exact n)) rfl).trans (congrArg (fun e => toFO [false, false] ((F__law_exact (fn__law_exact n)) e)) (rfl : mkEnv [false, false] [x0, x1] 3 = [.val x0, .val x1, .un]))
theorem o_law (x0 : D) : fn_law [x0] = toFO [false] (F_law [.val x0, .un, .un, .un, .un, .un, .un, .un, .un, .un, .un, .un]) := (opn [false] [x0] 12 F_law rfl).trans (congrArg (fun e => toFO [false] (F_law e)) (rfl : mkEnv [false] [x0] 12 = [.val x0, .un, .un, .un, .un, .un, .un, .un, .un, .un, .un, .un]))
/-! ### the facts -/
structure Ft (P : Program) (w : World) (K : PySem.W.Frag) (mg : Str → Option Value) (cl : Cw) : Prop where
  cp : cl.P = P
  cw : cl.w = w
  n_ValueError : mg "ValueError" = none
  n_abs : mg "abs" = none
  n_bool : mg "bool" = none
  n_int : mg "int" = none
  n_isinstance : mg "isinstance" = none
  n_len : mg "len" = none
  n_range : mg "range" = none
  n_str : mg "str" = none
  n_tuple : mg "tuple" = none
  x_BadCells : ∃ C f fd, cl "BadCells" = some C ∧ mg "BadCells" = some (.ref C) ∧ OexC K C ∧ PySem.W.findIn K (.ref C) "__init__" = some (some (.ref f)) ∧ PySem.W.typeIn K (.ref f) = some (.type "function") ∧ PySem.W.findIn K (.ref C) "what" = some none ∧ PySem.W.findIn K (.ref C) "place" = some none ∧ FunD K "__init__" "BadCells.__init__" (defArgs s_x_BadCells) (defBody s_x_BadCells) (defScope s_x_BadCells) [] [] f fd
  x_BadDemand : ∃ C f fd, cl "BadDemand" = some C ∧ mg "BadDemand" = some (.ref C) ∧ OexC K C ∧ PySem.W.findIn K (.ref C) "__init__" = some (some (.ref f)) ∧ PySem.W.typeIn K (.ref f) = some (.type "function") ∧ PySem.W.findIn K (.ref C) "place" = some none ∧ FunD K "__init__" "BadDemand.__init__" (defArgs s_x_BadDemand) (defBody s_x_BadDemand) (defScope s_x_BadDemand) [] [] f fd
  x_BadEdit : ∃ C f fd, cl "BadEdit" = some C ∧ mg "BadEdit" = some (.ref C) ∧ OexC K C ∧ PySem.W.findIn K (.ref C) "__init__" = some (some (.ref f)) ∧ PySem.W.typeIn K (.ref f) = some (.type "function") ∧ PySem.W.findIn K (.ref C) "place" = some none ∧ PySem.W.findIn K (.ref C) "what" = some none ∧ FunD K "__init__" "BadEdit.__init__" (defArgs s_x_BadEdit) (defBody s_x_BadEdit) (defScope s_x_BadEdit) [] [] f fd
  x_BadFact : ∃ C f fd, cl "BadFact" = some C ∧ mg "BadFact" = some (.ref C) ∧ OexC K C ∧ PySem.W.findIn K (.ref C) "__init__" = some (some (.ref f)) ∧ PySem.W.typeIn K (.ref f) = some (.type "function") ∧ PySem.W.findIn K (.ref C) "place" = some none ∧ FunD K "__init__" "BadFact.__init__" (defArgs s_x_BadFact) (defBody s_x_BadFact) (defScope s_x_BadFact) [] [] f fd
  x_BadGlasses : ∃ C f fd, cl "BadGlasses" = some C ∧ mg "BadGlasses" = some (.ref C) ∧ OexC K C ∧ PySem.W.findIn K (.ref C) "__init__" = some (some (.ref f)) ∧ PySem.W.typeIn K (.ref f) = some (.type "function") ∧ PySem.W.findIn K (.ref C) "what" = some none ∧ PySem.W.findIn K (.ref C) "place" = some none ∧ FunD K "__init__" "BadGlasses.__init__" (defArgs s_x_BadGlasses) (defBody s_x_BadGlasses) (defScope s_x_BadGlasses) [] [] f fd
  x_BadLines : ∃ C f fd, cl "BadLines" = some C ∧ mg "BadLines" = some (.ref C) ∧ OexC K C ∧ PySem.W.findIn K (.ref C) "__init__" = some (some (.ref f)) ∧ PySem.W.typeIn K (.ref f) = some (.type "function") ∧ PySem.W.findIn K (.ref C) "number" = some none ∧ PySem.W.findIn K (.ref C) "word" = some none ∧ FunD K "__init__" "BadLines.__init__" (defArgs s_x_BadLines) (defBody s_x_BadLines) (defScope s_x_BadLines) [] [] f fd
  x_BadMove : ∃ C f fd, cl "BadMove" = some C ∧ mg "BadMove" = some (.ref C) ∧ OexC K C ∧ PySem.W.findIn K (.ref C) "__init__" = some (some (.ref f)) ∧ PySem.W.typeIn K (.ref f) = some (.type "function") ∧ PySem.W.findIn K (.ref C) "index" = some none ∧ PySem.W.findIn K (.ref C) "what" = some none ∧ FunD K "__init__" "BadMove.__init__" (defArgs s_x_BadMove) (defBody s_x_BadMove) (defScope s_x_BadMove) [] [] f fd
  x_BadPair : ∃ C f fd, cl "BadPair" = some C ∧ mg "BadPair" = some (.ref C) ∧ OexC K C ∧ PySem.W.findIn K (.ref C) "__init__" = some (some (.ref f)) ∧ PySem.W.typeIn K (.ref f) = some (.type "function") ∧ PySem.W.findIn K (.ref C) "what" = some none ∧ FunD K "__init__" "BadPair.__init__" (defArgs s_x_BadPair) (defBody s_x_BadPair) (defScope s_x_BadPair) [] [] f fd
  x_BadProgram : ∃ C f fd, cl "BadProgram" = some C ∧ mg "BadProgram" = some (.ref C) ∧ OexC K C ∧ PySem.W.findIn K (.ref C) "__init__" = some (some (.ref f)) ∧ PySem.W.typeIn K (.ref f) = some (.type "function") ∧ PySem.W.findIn K (.ref C) "what" = some none ∧ FunD K "__init__" "BadProgram.__init__" (defArgs s_x_BadProgram) (defBody s_x_BadProgram) (defScope s_x_BadProgram) [] [] f fd
  x_BadRewriting : ∃ C f fd, cl "BadRewriting" = some C ∧ mg "BadRewriting" = some (.ref C) ∧ OexC K C ∧ PySem.W.findIn K (.ref C) "__init__" = some (some (.ref f)) ∧ PySem.W.typeIn K (.ref f) = some (.type "function") ∧ PySem.W.findIn K (.ref C) "what" = some none ∧ FunD K "__init__" "BadRewriting.__init__" (defArgs s_x_BadRewriting) (defBody s_x_BadRewriting) (defScope s_x_BadRewriting) [] [] f fd
  x_BadRow : ∃ C f fd, cl "BadRow" = some C ∧ mg "BadRow" = some (.ref C) ∧ OexC K C ∧ PySem.W.findIn K (.ref C) "__init__" = some (some (.ref f)) ∧ PySem.W.typeIn K (.ref f) = some (.type "function") ∧ PySem.W.findIn K (.ref C) "place" = some none ∧ FunD K "__init__" "BadRow.__init__" (defArgs s_x_BadRow) (defBody s_x_BadRow) (defScope s_x_BadRow) [] [] f fd
  x_BadStand : ∃ C f fd, cl "BadStand" = some C ∧ mg "BadStand" = some (.ref C) ∧ OexC K C ∧ PySem.W.findIn K (.ref C) "__init__" = some (some (.ref f)) ∧ PySem.W.typeIn K (.ref f) = some (.type "function") ∧ PySem.W.findIn K (.ref C) "stand" = some none ∧ FunD K "__init__" "BadStand.__init__" (defArgs s_x_BadStand) (defBody s_x_BadStand) (defScope s_x_BadStand) [] [] f fd
  x_BadSteps : ∃ C f fd, cl "BadSteps" = some C ∧ mg "BadSteps" = some (.ref C) ∧ OexC K C ∧ PySem.W.findIn K (.ref C) "__init__" = some (some (.ref f)) ∧ PySem.W.typeIn K (.ref f) = some (.type "function") ∧ PySem.W.findIn K (.ref C) "what" = some none ∧ PySem.W.findIn K (.ref C) "place" = some none ∧ FunD K "__init__" "BadSteps.__init__" (defArgs s_x_BadSteps) (defBody s_x_BadSteps) (defScope s_x_BadSteps) [] [] f fd
  x_BadText : ∃ C f fd, cl "BadText" = some C ∧ mg "BadText" = some (.ref C) ∧ OexC K C ∧ PySem.W.findIn K (.ref C) "__init__" = some (some (.ref f)) ∧ PySem.W.typeIn K (.ref f) = some (.type "function") ∧ PySem.W.findIn K (.ref C) "at" = some none ∧ PySem.W.findIn K (.ref C) "what" = some none ∧ FunD K "__init__" "BadText.__init__" (defArgs s_x_BadText) (defBody s_x_BadText) (defScope s_x_BadText) [] [] f fd
  x_NoMove : ∃ C f fd, cl "NoMove" = some C ∧ mg "NoMove" = some (.ref C) ∧ OexC K C ∧ PySem.W.findIn K (.ref C) "__init__" = some (some (.ref f)) ∧ PySem.W.typeIn K (.ref f) = some (.type "function") ∧ PySem.W.findIn K (.ref C) "what" = some none ∧ FunD K "__init__" "NoMove.__init__" (defArgs s_x_NoMove) (defBody s_x_NoMove) (defScope s_x_NoMove) [] [] f fd
  x_NoStep : ∃ C f fd, cl "NoStep" = some C ∧ mg "NoStep" = some (.ref C) ∧ OexC K C ∧ PySem.W.findIn K (.ref C) "__init__" = some (some (.ref f)) ∧ PySem.W.typeIn K (.ref f) = some (.type "function") ∧ PySem.W.findIn K (.ref C) "name" = some none ∧ FunD K "__init__" "NoStep.__init__" (defArgs s_x_NoStep) (defBody s_x_NoStep) (defScope s_x_NoStep) [] [] f fd
  x_NoWay : ∃ C f fd, cl "NoWay" = some C ∧ mg "NoWay" = some (.ref C) ∧ OexC K C ∧ PySem.W.findIn K (.ref C) "__init__" = some (some (.ref f)) ∧ PySem.W.typeIn K (.ref f) = some (.type "function") ∧ PySem.W.findIn K (.ref C) "stand" = some none ∧ FunD K "__init__" "NoWay.__init__" (defArgs s_x_NoWay) (defBody s_x_NoWay) (defScope s_x_NoWay) [] [] f fd
  x_NoneFits : ∃ C f fd, cl "NoneFits" = some C ∧ mg "NoneFits" = some (.ref C) ∧ OexC K C ∧ PySem.W.findIn K (.ref C) "__init__" = some (some (.ref f)) ∧ PySem.W.typeIn K (.ref f) = some (.type "function") ∧ PySem.W.findIn K (.ref C) "place" = some none ∧ PySem.W.findIn K (.ref C) "other" = some none ∧ FunD K "__init__" "NoneFits.__init__" (defArgs s_x_NoneFits) (defBody s_x_NoneFits) (defScope s_x_NoneFits) [] [] f fd
  x_NotEven : ∃ C f fd, cl "NotEven" = some C ∧ mg "NotEven" = some (.ref C) ∧ OexC K C ∧ PySem.W.findIn K (.ref C) "__init__" = some (some (.ref f)) ∧ PySem.W.typeIn K (.ref f) = some (.type "function") ∧ PySem.W.findIn K (.ref C) "member" = some none ∧ FunD K "__init__" "NotEven.__init__" (defArgs s_x_NotEven) (defBody s_x_NotEven) (defScope s_x_NotEven) [] [] f fd
  x_NotLet : ∃ C f fd, cl "NotLet" = some C ∧ mg "NotLet" = some (.ref C) ∧ OexC K C ∧ PySem.W.findIn K (.ref C) "__init__" = some (some (.ref f)) ∧ PySem.W.typeIn K (.ref f) = some (.type "function") ∧ PySem.W.findIn K (.ref C) "what" = some none ∧ FunD K "__init__" "NotLet.__init__" (defArgs s_x_NotLet) (defBody s_x_NotLet) (defScope s_x_NotLet) [] [] f fd
  x_NotTest : ∃ C f fd, cl "NotTest" = some C ∧ mg "NotTest" = some (.ref C) ∧ OexC K C ∧ PySem.W.findIn K (.ref C) "__init__" = some (some (.ref f)) ∧ PySem.W.typeIn K (.ref f) = some (.type "function") ∧ PySem.W.findIn K (.ref C) "name" = some none ∧ FunD K "__init__" "NotTest.__init__" (defArgs s_x_NotTest) (defBody s_x_NotTest) (defScope s_x_NotTest) [] [] f fd
  x_Spoilt : ∃ C f fd, cl "Spoilt" = some C ∧ mg "Spoilt" = some (.ref C) ∧ OexC K C ∧ PySem.W.findIn K (.ref C) "__init__" = some (some (.ref f)) ∧ PySem.W.typeIn K (.ref f) = some (.type "function") ∧ PySem.W.findIn K (.ref C) "place" = some none ∧ FunD K "__init__" "Spoilt.__init__" (defArgs s_x_Spoilt) (defBody s_x_Spoilt) (defScope s_x_Spoilt) [] [] f fd
  x_TooMany : ∃ C f fd, cl "TooMany" = some C ∧ mg "TooMany" = some (.ref C) ∧ OexC K C ∧ PySem.W.findIn K (.ref C) "__init__" = some (some (.ref f)) ∧ PySem.W.typeIn K (.ref f) = some (.type "function") ∧ PySem.W.findIn K (.ref C) "most" = some none ∧ FunD K "__init__" "TooMany.__init__" (defArgs s_x_TooMany) (defBody s_x_TooMany) (defScope s_x_TooMany) [] [] f fd
  mx_BadKind : ∃ C, DL.ExcC K mg cl "BadKind" C
  mx_BadLot : ∃ C, DL.ExcC K mg cl "BadLot" C
  mx_BadManner : ∃ C, DL.ExcC K mg cl "BadManner" C
  mx_BadMost : ∃ C, DL.ExcC K mg cl "BadMost" C
  mx_BadSide : ∃ C, DL.ExcC K mg cl "BadSide" C
  mx_BadStands : ∃ C, DL.ExcC K mg cl "BadStands" C
  mx_CheckerError : ∃ C, DL.ExcC K mg cl "CheckerError" C
  mx_NoCounter : ∃ C, DL.ExcC K mg cl "NoCounter" C
  mx_NoDeed : ∃ C, DL.ExcC K mg cl "NoDeed" C
  mx_NoMember : ∃ C, DL.ExcC K mg cl "NoMember" C
  mx_NotAgain : ∃ C, DL.ExcC K mg cl "NotAgain" C
  mx_NotAll : ∃ C, DL.ExcC K mg cl "NotAll" C
  mx_UnlikeStands : ∃ C, DL.ExcC K mg cl "UnlikeStands" C
  xv_at : ∀ cn A, xn_at.contains cn = true → cl cn = some A → XfC K A ∧ PySem.W.findIn K (.ref A) "at" = some none
  xv_index : ∀ cn A, xn_index.contains cn = true → cl cn = some A → XfC K A ∧ PySem.W.findIn K (.ref A) "index" = some none
  xv_member : ∀ cn A, xn_member.contains cn = true → cl cn = some A → XfC K A ∧ PySem.W.findIn K (.ref A) "member" = some none
  xv_most : ∀ cn A, xn_most.contains cn = true → cl cn = some A → XfC K A ∧ PySem.W.findIn K (.ref A) "most" = some none
  xv_name : ∀ cn A, xn_name.contains cn = true → cl cn = some A → XfC K A ∧ PySem.W.findIn K (.ref A) "name" = some none
  xv_number : ∀ cn A, xn_number.contains cn = true → cl cn = some A → XfC K A ∧ PySem.W.findIn K (.ref A) "number" = some none
  xv_other : ∀ cn A, xn_other.contains cn = true → cl cn = some A → XfC K A ∧ PySem.W.findIn K (.ref A) "other" = some none
  xv_place : ∀ cn A, xn_place.contains cn = true → cl cn = some A → XfC K A ∧ PySem.W.findIn K (.ref A) "place" = some none
  xv_stand : ∀ cn A, xn_stand.contains cn = true → cl cn = some A → XfC K A ∧ PySem.W.findIn K (.ref A) "stand" = some none
  xv_what : ∀ cn A, xn_what.contains cn = true → cl cn = some A → XfC K A ∧ PySem.W.findIn K (.ref A) "what" = some none
  xv_word : ∀ cn A, xn_word.contains cn = true → cl cn = some A → XfC K A ∧ PySem.W.findIn K (.ref A) "word" = some none
  iv_BadCells : ∃ B, mg "BadCells" = some (.ref B) ∧ IxT K cl (.ref B) (xtab xnS xs_BadCells)
  iv_BadDemand : ∃ B, mg "BadDemand" = some (.ref B) ∧ IxT K cl (.ref B) (xtab xnS xs_BadDemand)
  iv_BadEdit : ∃ B, mg "BadEdit" = some (.ref B) ∧ IxT K cl (.ref B) (xtab xnS xs_BadEdit)
  iv_BadFact : ∃ B, mg "BadFact" = some (.ref B) ∧ IxT K cl (.ref B) (xtab xnS xs_BadFact)
  iv_BadGlasses : ∃ B, mg "BadGlasses" = some (.ref B) ∧ IxT K cl (.ref B) (xtab xnS xs_BadGlasses)
  iv_BadKind : ∃ B, mg "BadKind" = some (.ref B) ∧ IxT K cl (.ref B) (xtab xnS xs_BadKind)
  iv_BadLines : ∃ B, mg "BadLines" = some (.ref B) ∧ IxT K cl (.ref B) (xtab xnS xs_BadLines)
  iv_BadLot : ∃ B, mg "BadLot" = some (.ref B) ∧ IxT K cl (.ref B) (xtab xnS xs_BadLot)
  iv_BadManner : ∃ B, mg "BadManner" = some (.ref B) ∧ IxT K cl (.ref B) (xtab xnS xs_BadManner)
  iv_BadMost : ∃ B, mg "BadMost" = some (.ref B) ∧ IxT K cl (.ref B) (xtab xnS xs_BadMost)
  iv_BadMove : ∃ B, mg "BadMove" = some (.ref B) ∧ IxT K cl (.ref B) (xtab xnS xs_BadMove)
  iv_BadPair : ∃ B, mg "BadPair" = some (.ref B) ∧ IxT K cl (.ref B) (xtab xnS xs_BadPair)
  iv_BadProgram : ∃ B, mg "BadProgram" = some (.ref B) ∧ IxT K cl (.ref B) (xtab xnS xs_BadProgram)
  iv_BadRewriting : ∃ B, mg "BadRewriting" = some (.ref B) ∧ IxT K cl (.ref B) (xtab xnS xs_BadRewriting)
  iv_BadRow : ∃ B, mg "BadRow" = some (.ref B) ∧ IxT K cl (.ref B) (xtab xnS xs_BadRow)
  iv_BadSide : ∃ B, mg "BadSide" = some (.ref B) ∧ IxT K cl (.ref B) (xtab xnS xs_BadSide)
  iv_BadStand : ∃ B, mg "BadStand" = some (.ref B) ∧ IxT K cl (.ref B) (xtab xnS xs_BadStand)
  iv_BadStands : ∃ B, mg "BadStands" = some (.ref B) ∧ IxT K cl (.ref B) (xtab xnS xs_BadStands)
  iv_BadSteps : ∃ B, mg "BadSteps" = some (.ref B) ∧ IxT K cl (.ref B) (xtab xnS xs_BadSteps)
  iv_BadText : ∃ B, mg "BadText" = some (.ref B) ∧ IxT K cl (.ref B) (xtab xnS xs_BadText)
  iv_CheckerError : ∃ B, mg "CheckerError" = some (.ref B) ∧ IxT K cl (.ref B) (xtab xnS xs_CheckerError)
  iv_NoCounter : ∃ B, mg "NoCounter" = some (.ref B) ∧ IxT K cl (.ref B) (xtab xnS xs_NoCounter)
  iv_NoDeed : ∃ B, mg "NoDeed" = some (.ref B) ∧ IxT K cl (.ref B) (xtab xnS xs_NoDeed)
  iv_NoMember : ∃ B, mg "NoMember" = some (.ref B) ∧ IxT K cl (.ref B) (xtab xnS xs_NoMember)
  iv_NoMove : ∃ B, mg "NoMove" = some (.ref B) ∧ IxT K cl (.ref B) (xtab xnS xs_NoMove)
  iv_NoStep : ∃ B, mg "NoStep" = some (.ref B) ∧ IxT K cl (.ref B) (xtab xnS xs_NoStep)
  iv_NoWay : ∃ B, mg "NoWay" = some (.ref B) ∧ IxT K cl (.ref B) (xtab xnS xs_NoWay)
  iv_NoneFits : ∃ B, mg "NoneFits" = some (.ref B) ∧ IxT K cl (.ref B) (xtab xnS xs_NoneFits)
  iv_NotAgain : ∃ B, mg "NotAgain" = some (.ref B) ∧ IxT K cl (.ref B) (xtab xnS xs_NotAgain)
  iv_NotAll : ∃ B, mg "NotAll" = some (.ref B) ∧ IxT K cl (.ref B) (xtab xnS xs_NotAll)
  iv_NotEven : ∃ B, mg "NotEven" = some (.ref B) ∧ IxT K cl (.ref B) (xtab xnS xs_NotEven)
  iv_NotLet : ∃ B, mg "NotLet" = some (.ref B) ∧ IxT K cl (.ref B) (xtab xnS xs_NotLet)
  iv_NotTest : ∃ B, mg "NotTest" = some (.ref B) ∧ IxT K cl (.ref B) (xtab xnS xs_NotTest)
  iv_Spoilt : ∃ B, mg "Spoilt" = some (.ref B) ∧ IxT K cl (.ref B) (xtab xnS xs_Spoilt)
  iv_TooMany : ∃ B, mg "TooMany" = some (.ref B) ∧ IxT K cl (.ref B) (xtab xnS xs_TooMany)
  iv_UnlikeStands : ∃ B, mg "UnlikeStands" = some (.ref B) ∧ IxT K cl (.ref B) (xtab xnS xs_UnlikeStands)
  iv_ValueError : IxT K cl (.type "ValueError") (xtab xnS xs_ValueError)
  tab : ExmTab K cl tabE
  d__law_hand : ∃ f fd, FunD K "_law_hand" "_law_hand" (defArgs s__law_hand) (defBody s__law_hand) (defScope s__law_hand) [] [] f fd ∧ mg "_law_hand" = some (.ref f)
  d__law_mixed : ∃ f fd, FunD K "_law_mixed" "_law_mixed" (defArgs s__law_mixed) (defBody s__law_mixed) (defScope s__law_mixed) [] [] f fd ∧ mg "_law_mixed" = some (.ref f)
  d__law_take : ∃ f fd, FunD K "_law_take" "_law_take" (defArgs s__law_take) (defBody s__law_take) (defScope s__law_take) [] [] f fd ∧ mg "_law_take" = some (.ref f)
  d__law_int : ∃ f fd, FunD K "_law_int" "_law_int" (defArgs s__law_int) (defBody s__law_int) (defScope s__law_int) [] [] f fd ∧ mg "_law_int" = some (.ref f)
  d__law_exact : ∃ f fd, FunD K "_law_exact" "_law_exact" (defArgs s__law_exact) (defBody s__law_exact) (defScope s__law_exact) [] [] f fd ∧ mg "_law_exact" = some (.ref f)
  d__law_bare : ∃ f fd, FunD K "_law_bare" "_law_bare" (defArgs s__law_bare) (defBody s__law_bare) (defScope s__law_bare) [] [] f fd ∧ mg "_law_bare" = some (.ref f)
  d__law_singles : ∃ f fd, FunD K "_law_singles" "_law_singles" (defArgs s__law_singles) (defBody s__law_singles) (defScope s__law_singles) [] [] f fd ∧ mg "_law_singles" = some (.ref f)
  d__law_pairs : ∃ f fd, FunD K "_law_pairs" "_law_pairs" (defArgs s__law_pairs) (defBody s__law_pairs) (defScope s__law_pairs) [] [] f fd ∧ mg "_law_pairs" = some (.ref f)
  d__law_classes_of : ∃ f fd, FunD K "_law_classes_of" "_law_classes_of" (defArgs s__law_classes_of) (defBody s__law_classes_of) (defScope s__law_classes_of) [] [] f fd ∧ mg "_law_classes_of" = some (.ref f)
  d_law : ∃ f fd, FunD K "law" "law" (defArgs s_law) (defBody s_law) (defScope s_law) [] [] f fd ∧ mg "law" = some (.ref f)
section
variable {P : Program} {w : World} {K : PySem.W.Frag} {mg : Str → Option Value} {base : Heap} {cl : Cw}
theorem calX_BadCells (T : Ft P w K mg cl) : CalX P w K mg base cl "BadCells" ["what", "place"] := by
  obtain ⟨C, f, fd, e1, e2, T0, e3, e4, n0, n1, F⟩ := T.x_BadCells
  have b : Binds K fd ["self", "what", "place"] [] := F.bindsN fun _ _ _ _ _ _ us hl => match us, hl with | [_, _, _], _ => rfl
  exact calX2 e1 e2 T0 e3 e4 n0 n1 F sc_x_BadCells rfl b fun cdv A outer s' H E => ⟨⟨(self_pe rfl (by first | exact .inl rfl | exact .inr rfl | decide +kernel) (by decide) (by decide)), (self_pe rfl (by first | exact .inl rfl | exact .inr rfl | decide +kernel) (by decide) (by decide)), rfl⟩, (self_pe rfl (by first | exact .inl rfl | exact .inr rfl | decide +kernel) (by decide) (by decide)), (self_pe rfl (by first | exact .inl rfl | exact .inr rfl | decide +kernel) (by decide) (by decide)), rfl⟩
theorem calX_BadDemand (T : Ft P w K mg cl) : CalX P w K mg base cl "BadDemand" ["place"] := by
  obtain ⟨C, f, fd, e1, e2, T0, e3, e4, n0, F⟩ := T.x_BadDemand
  have b : Binds K fd ["self", "place"] [] := F.bindsN fun _ _ _ _ _ _ us hl => match us, hl with | [_, _], _ => rfl
  exact calX1 e1 e2 T0 e3 e4 n0 F sc_x_BadDemand rfl b fun cdv A outer s' H E => ⟨(self_pe rfl (by first | exact .inl rfl | exact .inr rfl | decide +kernel) (by decide) (by decide)), (self_pe rfl (by first | exact .inl rfl | exact .inr rfl | decide +kernel) (by decide) (by decide)), rfl⟩
theorem calX_BadEdit (T : Ft P w K mg cl) : CalX P w K mg base cl "BadEdit" ["place", "what"] := by
  obtain ⟨C, f, fd, e1, e2, T0, e3, e4, n0, n1, F⟩ := T.x_BadEdit
  have b : Binds K fd ["self", "place", "what"] [] := F.bindsN fun _ _ _ _ _ _ us hl => match us, hl with | [_, _, _], _ => rfl
  exact calX2 e1 e2 T0 e3 e4 n0 n1 F sc_x_BadEdit rfl b fun cdv A outer s' H E => ⟨⟨(self_pe rfl (by first | exact .inl rfl | exact .inr rfl | decide +kernel) (by decide) (by decide)), (self_pe rfl (by first | exact .inl rfl | exact .inr rfl | decide +kernel) (by decide) (by decide)), rfl⟩, (self_pe rfl (by first | exact .inl rfl | exact .inr rfl | decide +kernel) (by decide) (by decide)), (self_pe rfl (by first | exact .inl rfl | exact .inr rfl | decide +kernel) (by decide) (by decide)), rfl⟩
theorem calX_BadFact (T : Ft P w K mg cl) : CalX P w K mg base cl "BadFact" ["place"] := by
  obtain ⟨C, f, fd, e1, e2, T0, e3, e4, n0, F⟩ := T.x_BadFact
  have b : Binds K fd ["self", "place"] [] := F.bindsN fun _ _ _ _ _ _ us hl => match us, hl with | [_, _], _ => rfl
  exact calX1 e1 e2 T0 e3 e4 n0 F sc_x_BadFact rfl b fun cdv A outer s' H E => ⟨(self_pe rfl (by first | exact .inl rfl | exact .inr rfl | decide +kernel) (by decide) (by decide)), (self_pe rfl (by first | exact .inl rfl | exact .inr rfl | decide +kernel) (by decide) (by decide)), rfl⟩
theorem calX_BadGlasses (T : Ft P w K mg cl) : CalX P w K mg base cl "BadGlasses" ["what", "place"] := by
  obtain ⟨C, f, fd, e1, e2, T0, e3, e4, n0, n1, F⟩ := T.x_BadGlasses
  have b : Binds K fd ["self", "what", "place"] [] := F.bindsN fun _ _ _ _ _ _ us hl => match us, hl with | [_, _, _], _ => rfl
  exact calX2 e1 e2 T0 e3 e4 n0 n1 F sc_x_BadGlasses rfl b fun cdv A outer s' H E => ⟨⟨(self_pe rfl (by first | exact .inl rfl | exact .inr rfl | decide +kernel) (by decide) (by decide)), (self_pe rfl (by first | exact .inl rfl | exact .inr rfl | decide +kernel) (by decide) (by decide)), rfl⟩, (self_pe rfl (by first | exact .inl rfl | exact .inr rfl | decide +kernel) (by decide) (by decide)), (self_pe rfl (by first | exact .inl rfl | exact .inr rfl | decide +kernel) (by decide) (by decide)), rfl⟩
theorem calX_BadLines (T : Ft P w K mg cl) : CalX P w K mg base cl "BadLines" ["number", "word"] := by
  obtain ⟨C, f, fd, e1, e2, T0, e3, e4, n0, n1, F⟩ := T.x_BadLines
  have b : Binds K fd ["self", "number", "word"] [] := F.bindsN fun _ _ _ _ _ _ us hl => match us, hl with | [_, _, _], _ => rfl
  exact calX2 e1 e2 T0 e3 e4 n0 n1 F sc_x_BadLines rfl b fun cdv A outer s' H E => ⟨⟨(self_pe rfl (by first | exact .inl rfl | exact .inr rfl | decide +kernel) (by decide) (by decide)), (self_pe rfl (by first | exact .inl rfl | exact .inr rfl | decide +kernel) (by decide) (by decide)), rfl⟩, (self_pe rfl (by first | exact .inl rfl | exact .inr rfl | decide +kernel) (by decide) (by decide)), (self_pe rfl (by first | exact .inl rfl | exact .inr rfl | decide +kernel) (by decide) (by decide)), rfl⟩
theorem calX_BadMove (T : Ft P w K mg cl) : CalX P w K mg base cl "BadMove" ["index", "what"] := by
  obtain ⟨C, f, fd, e1, e2, T0, e3, e4, n0, n1, F⟩ := T.x_BadMove
  have b : Binds K fd ["self", "index", "what"] [] := F.bindsN fun _ _ _ _ _ _ us hl => match us, hl with | [_, _, _], _ => rfl
  exact calX2 e1 e2 T0 e3 e4 n0 n1 F sc_x_BadMove rfl b fun cdv A outer s' H E => ⟨⟨(self_pe rfl (by first | exact .inl rfl | exact .inr rfl | decide +kernel) (by decide) (by decide)), (self_pe rfl (by first | exact .inl rfl | exact .inr rfl | decide +kernel) (by decide) (by decide)), rfl⟩, (self_pe rfl (by first | exact .inl rfl | exact .inr rfl | decide +kernel) (by decide) (by decide)), (self_pe rfl (by first | exact .inl rfl | exact .inr rfl | decide +kernel) (by decide) (by decide)), rfl⟩
theorem calX_BadPair (T : Ft P w K mg cl) : CalX P w K mg base cl "BadPair" ["what"] := by
  obtain ⟨C, f, fd, e1, e2, T0, e3, e4, n0, F⟩ := T.x_BadPair
  have b : Binds K fd ["self", "what"] [] := F.bindsN fun _ _ _ _ _ _ us hl => match us, hl with | [_, _], _ => rfl
  exact calX1 e1 e2 T0 e3 e4 n0 F sc_x_BadPair rfl b fun cdv A outer s' H E => ⟨(self_pe rfl (by first | exact .inl rfl | exact .inr rfl | decide +kernel) (by decide) (by decide)), (self_pe rfl (by first | exact .inl rfl | exact .inr rfl | decide +kernel) (by decide) (by decide)), rfl⟩
theorem calX_BadProgram (T : Ft P w K mg cl) : CalX P w K mg base cl "BadProgram" ["what"] := by
  obtain ⟨C, f, fd, e1, e2, T0, e3, e4, n0, F⟩ := T.x_BadProgram
  have b : Binds K fd ["self", "what"] [] := F.bindsN fun _ _ _ _ _ _ us hl => match us, hl with | [_, _], _ => rfl
  exact calX1 e1 e2 T0 e3 e4 n0 F sc_x_BadProgram rfl b fun cdv A outer s' H E => ⟨(self_pe rfl (by first | exact .inl rfl | exact .inr rfl | decide +kernel) (by decide) (by decide)), (self_pe rfl (by first | exact .inl rfl | exact .inr rfl | decide +kernel) (by decide) (by decide)), rfl⟩
theorem calX_BadRewriting (T : Ft P w K mg cl) : CalX P w K mg base cl "BadRewriting" ["what"] := by
  obtain ⟨C, f, fd, e1, e2, T0, e3, e4, n0, F⟩ := T.x_BadRewriting
  have b : Binds K fd ["self", "what"] [] := F.bindsN fun _ _ _ _ _ _ us hl => match us, hl with | [_, _], _ => rfl
  exact calX1 e1 e2 T0 e3 e4 n0 F sc_x_BadRewriting rfl b fun cdv A outer s' H E => ⟨(self_pe rfl (by first | exact .inl rfl | exact .inr rfl | decide +kernel) (by decide) (by decide)), (self_pe rfl (by first | exact .inl rfl | exact .inr rfl | decide +kernel) (by decide) (by decide)), rfl⟩
theorem calX_BadRow (T : Ft P w K mg cl) : CalX P w K mg base cl "BadRow" ["place"] := by
  obtain ⟨C, f, fd, e1, e2, T0, e3, e4, n0, F⟩ := T.x_BadRow
  have b : Binds K fd ["self", "place"] [] := F.bindsN fun _ _ _ _ _ _ us hl => match us, hl with | [_, _], _ => rfl
  exact calX1 e1 e2 T0 e3 e4 n0 F sc_x_BadRow rfl b fun cdv A outer s' H E => ⟨(self_pe rfl (by first | exact .inl rfl | exact .inr rfl | decide +kernel) (by decide) (by decide)), (self_pe rfl (by first | exact .inl rfl | exact .inr rfl | decide +kernel) (by decide) (by decide)), rfl⟩
theorem calX_BadStand (T : Ft P w K mg cl) : CalX P w K mg base cl "BadStand" ["stand"] := by
  obtain ⟨C, f, fd, e1, e2, T0, e3, e4, n0, F⟩ := T.x_BadStand
  have b : Binds K fd ["self", "stand"] [] := F.bindsN fun _ _ _ _ _ _ us hl => match us, hl with | [_, _], _ => rfl
  exact calX1 e1 e2 T0 e3 e4 n0 F sc_x_BadStand rfl b fun cdv A outer s' H E => ⟨(self_pe rfl (by first | exact .inl rfl | exact .inr rfl | decide +kernel) (by decide) (by decide)), (self_pe rfl (by first | exact .inl rfl | exact .inr rfl | decide +kernel) (by decide) (by decide)), rfl⟩
theorem calX_BadSteps (T : Ft P w K mg cl) : CalX P w K mg base cl "BadSteps" ["what", "place"] := by
  obtain ⟨C, f, fd, e1, e2, T0, e3, e4, n0, n1, F⟩ := T.x_BadSteps
  have b : Binds K fd ["self", "what", "place"] [] := F.bindsN fun _ _ _ _ _ _ us hl => match us, hl with | [_, _, _], _ => rfl
  exact calX2 e1 e2 T0 e3 e4 n0 n1 F sc_x_BadSteps rfl b fun cdv A outer s' H E => ⟨⟨(self_pe rfl (by first | exact .inl rfl | exact .inr rfl | decide +kernel) (by decide) (by decide)), (self_pe rfl (by first | exact .inl rfl | exact .inr rfl | decide +kernel) (by decide) (by decide)), rfl⟩, (self_pe rfl (by first | exact .inl rfl | exact .inr rfl | decide +kernel) (by decide) (by decide)), (self_pe rfl (by first | exact .inl rfl | exact .inr rfl | decide +kernel) (by decide) (by decide)), rfl⟩
theorem calX_BadText (T : Ft P w K mg cl) : CalX P w K mg base cl "BadText" ["at", "what"] := by
  obtain ⟨C, f, fd, e1, e2, T0, e3, e4, n0, n1, F⟩ := T.x_BadText
  have b : Binds K fd ["self", "at", "what"] [] := F.bindsN fun _ _ _ _ _ _ us hl => match us, hl with | [_, _, _], _ => rfl
  exact calX2 e1 e2 T0 e3 e4 n0 n1 F sc_x_BadText rfl b fun cdv A outer s' H E => ⟨⟨(self_pe rfl (by first | exact .inl rfl | exact .inr rfl | decide +kernel) (by decide) (by decide)), (self_pe rfl (by first | exact .inl rfl | exact .inr rfl | decide +kernel) (by decide) (by decide)), rfl⟩, (self_pe rfl (by first | exact .inl rfl | exact .inr rfl | decide +kernel) (by decide) (by decide)), (self_pe rfl (by first | exact .inl rfl | exact .inr rfl | decide +kernel) (by decide) (by decide)), rfl⟩
theorem calX_NoMove (T : Ft P w K mg cl) : CalX P w K mg base cl "NoMove" ["what"] := by
  obtain ⟨C, f, fd, e1, e2, T0, e3, e4, n0, F⟩ := T.x_NoMove
  have b : Binds K fd ["self", "what"] [] := F.bindsN fun _ _ _ _ _ _ us hl => match us, hl with | [_, _], _ => rfl
  exact calX1 e1 e2 T0 e3 e4 n0 F sc_x_NoMove rfl b fun cdv A outer s' H E => ⟨(self_pe rfl (by first | exact .inl rfl | exact .inr rfl | decide +kernel) (by decide) (by decide)), (self_pe rfl (by first | exact .inl rfl | exact .inr rfl | decide +kernel) (by decide) (by decide)), rfl⟩
theorem calX_NoStep (T : Ft P w K mg cl) : CalX P w K mg base cl "NoStep" ["name"] := by
  obtain ⟨C, f, fd, e1, e2, T0, e3, e4, n0, F⟩ := T.x_NoStep
  have b : Binds K fd ["self", "name"] [] := F.bindsN fun _ _ _ _ _ _ us hl => match us, hl with | [_, _], _ => rfl
  exact calX1 e1 e2 T0 e3 e4 n0 F sc_x_NoStep rfl b fun cdv A outer s' H E => ⟨(self_pe rfl (by first | exact .inl rfl | exact .inr rfl | decide +kernel) (by decide) (by decide)), (self_pe rfl (by first | exact .inl rfl | exact .inr rfl | decide +kernel) (by decide) (by decide)), rfl⟩
theorem calX_NoWay (T : Ft P w K mg cl) : CalX P w K mg base cl "NoWay" ["stand"] := by
  obtain ⟨C, f, fd, e1, e2, T0, e3, e4, n0, F⟩ := T.x_NoWay
  have b : Binds K fd ["self", "stand"] [] := F.bindsN fun _ _ _ _ _ _ us hl => match us, hl with | [_, _], _ => rfl
  exact calX1 e1 e2 T0 e3 e4 n0 F sc_x_NoWay rfl b fun cdv A outer s' H E => ⟨(self_pe rfl (by first | exact .inl rfl | exact .inr rfl | decide +kernel) (by decide) (by decide)), (self_pe rfl (by first | exact .inl rfl | exact .inr rfl | decide +kernel) (by decide) (by decide)), rfl⟩
theorem calX_NoneFits (T : Ft P w K mg cl) : CalX P w K mg base cl "NoneFits" ["place", "other"] := by
  obtain ⟨C, f, fd, e1, e2, T0, e3, e4, n0, n1, F⟩ := T.x_NoneFits
  have b : Binds K fd ["self", "place", "other"] [] := F.bindsN fun _ _ _ _ _ _ us hl => match us, hl with | [_, _, _], _ => rfl
  exact calX2 e1 e2 T0 e3 e4 n0 n1 F sc_x_NoneFits rfl b fun cdv A outer s' H E => ⟨⟨(self_pe rfl (by first | exact .inl rfl | exact .inr rfl | decide +kernel) (by decide) (by decide)), (self_pe rfl (by first | exact .inl rfl | exact .inr rfl | decide +kernel) (by decide) (by decide)), rfl⟩, (self_pe rfl (by first | exact .inl rfl | exact .inr rfl | decide +kernel) (by decide) (by decide)), (self_pe rfl (by first | exact .inl rfl | exact .inr rfl | decide +kernel) (by decide) (by decide)), rfl⟩
theorem calX_NotEven (T : Ft P w K mg cl) : CalX P w K mg base cl "NotEven" ["member"] := by
  obtain ⟨C, f, fd, e1, e2, T0, e3, e4, n0, F⟩ := T.x_NotEven
  have b : Binds K fd ["self", "member"] [] := F.bindsN fun _ _ _ _ _ _ us hl => match us, hl with | [_, _], _ => rfl
  exact calX1 e1 e2 T0 e3 e4 n0 F sc_x_NotEven rfl b fun cdv A outer s' H E => ⟨(self_pe rfl (by first | exact .inl rfl | exact .inr rfl | decide +kernel) (by decide) (by decide)), (self_pe rfl (by first | exact .inl rfl | exact .inr rfl | decide +kernel) (by decide) (by decide)), rfl⟩
theorem calX_NotLet (T : Ft P w K mg cl) : CalX P w K mg base cl "NotLet" ["what"] := by
  obtain ⟨C, f, fd, e1, e2, T0, e3, e4, n0, F⟩ := T.x_NotLet
  have b : Binds K fd ["self", "what"] [] := F.bindsN fun _ _ _ _ _ _ us hl => match us, hl with | [_, _], _ => rfl
  exact calX1 e1 e2 T0 e3 e4 n0 F sc_x_NotLet rfl b fun cdv A outer s' H E => ⟨(self_pe rfl (by first | exact .inl rfl | exact .inr rfl | decide +kernel) (by decide) (by decide)), (self_pe rfl (by first | exact .inl rfl | exact .inr rfl | decide +kernel) (by decide) (by decide)), rfl⟩
theorem calX_NotTest (T : Ft P w K mg cl) : CalX P w K mg base cl "NotTest" ["name"] := by
  obtain ⟨C, f, fd, e1, e2, T0, e3, e4, n0, F⟩ := T.x_NotTest
  have b : Binds K fd ["self", "name"] [] := F.bindsN fun _ _ _ _ _ _ us hl => match us, hl with | [_, _], _ => rfl
  exact calX1 e1 e2 T0 e3 e4 n0 F sc_x_NotTest rfl b fun cdv A outer s' H E => ⟨(self_pe rfl (by first | exact .inl rfl | exact .inr rfl | decide +kernel) (by decide) (by decide)), (self_pe rfl (by first | exact .inl rfl | exact .inr rfl | decide +kernel) (by decide) (by decide)), rfl⟩
theorem calX_Spoilt (T : Ft P w K mg cl) : CalX P w K mg base cl "Spoilt" ["place"] := by
  obtain ⟨C, f, fd, e1, e2, T0, e3, e4, n0, F⟩ := T.x_Spoilt
  have b : Binds K fd ["self", "place"] [] := F.bindsN fun _ _ _ _ _ _ us hl => match us, hl with | [_, _], _ => rfl
  exact calX1 e1 e2 T0 e3 e4 n0 F sc_x_Spoilt rfl b fun cdv A outer s' H E => ⟨(self_pe rfl (by first | exact .inl rfl | exact .inr rfl | decide +kernel) (by decide) (by decide)), (self_pe rfl (by first | exact .inl rfl | exact .inr rfl | decide +kernel) (by decide) (by decide)), rfl⟩
theorem calX_TooMany (T : Ft P w K mg cl) : CalX P w K mg base cl "TooMany" ["most"] := by
  obtain ⟨C, f, fd, e1, e2, T0, e3, e4, n0, F⟩ := T.x_TooMany
  have b : Binds K fd ["self", "most"] [] := F.bindsN fun _ _ _ _ _ _ us hl => match us, hl with | [_, _], _ => rfl
  exact calX1 e1 e2 T0 e3 e4 n0 F sc_x_TooMany rfl b fun cdv A outer s' H E => ⟨(self_pe rfl (by first | exact .inl rfl | exact .inr rfl | decide +kernel) (by decide) (by decide)), (self_pe rfl (by first | exact .inl rfl | exact .inr rfl | decide +kernel) (by decide) (by decide)), rfl⟩
theorem cal__law_hand_1 (T : Ft P w K mg cl) : Cal P w K mg base cl 1 "_law_hand" [false] fn__law_hand [] := by
  obtain ⟨f, fd, F, g⟩ := T.d__law_hand
  have b : Binds K fd ["_law_script"] [] := F.bindsN fun _ _ _ _ _ _ us hl => match us, hl with | [_], _ => rfl
  refine ⟨f, fd, ["_law_script"], [], [], ⟨def_okD (N := N__law_hand) F sc__law_hand rfl (fun cdv A outer s H E hr tk po => ?_), g, F.kp⟩, b, .nil, fun _ => .nil⟩
  refine (jss_cons ?_ ?_)
  · first | with_reducible refine js_set (i := 1) (hN := ?_) (hi := ?_) (hx := ?_) (he := ?_) (hs := ?_) (hf := ?_) | refine js_set (i := 1) (hN := ?_) (hi := ?_) (hx := ?_) (he := ?_) (hs := ?_) (hf := ?_)
    · exact sc__law_hand.nd
    · rfl
    · first | exact .inl rfl | exact .inr rfl
    · exact (je_add (je_lenV rfl T.n_len (pv 0)) je_int)
    · rfl
    · first | exact .inl rfl | exact .inr rfl
  refine (jss_cons ?_ ?_)
  · first | with_reducible refine js_setO (i := 2) (hN := ?_) (hi := ?_) (hx := ?_) (he := ?_) (hs := ?_) (hf := ?_) | refine js_setO (i := 2) (hN := ?_) (hi := ?_) (hx := ?_) (he := ?_) (hs := ?_) (hf := ?_)
    · exact sc__law_hand.nd
    · rfl
    · first | exact .inl rfl | exact .inr rfl
    · exact (jf_lst ja_nil)
    · rfl
    · first | exact .inl rfl | exact .inr rfl
  refine (jss_cons ?_ ?_)
  · refine (js_for (ts := [3]) po rfl ?_ ?_ ?_)
    · exact (ji_seq (je_var (pv 0)))
    · exact (jg_name (pg_name (i := 3) sc__law_hand.nd rfl (by first | exact .inl rfl | exact .inr rfl)))
    refine (jss_cons ?_ ?_)
    · first | with_reducible refine js_set (i := 1) (hN := ?_) (hi := ?_) (hx := ?_) (he := ?_) (hs := ?_) (hf := ?_) | refine js_set (i := 1) (hN := ?_) (hi := ?_) (hx := ?_) (he := ?_) (hs := ?_) (hf := ?_)
      · exact sc__law_hand.nd
      · rfl
      · first | exact .inl rfl | exact .inr rfl
      · refine (je_mod ?_ ?_)
        · refine (je_callint rfl T.n_int ?_)
          with_reducible refine ja_cons ?jh1 ja_nil (hs := ?js1)
          case js1 => rfl
          case jh1 =>
            refine (je_add ?_ ?_)
            · exact (je_mul (je_var (pv 1)) je_int)
            refine (je_callint rfl T.n_int ?_)
            exact (ja_cons (je_var (pv 3)) ja_nil)
        exact je_int
      · rfl
      · first | exact .inl rfl | exact .inr rfl
    refine (jss_one ?_)
    refine (js_app (pv 2) ?_)
    refine (je_abs rfl T.n_abs ?_)
    with_reducible refine ja_cons ?jh2 ja_nil (hs := ?js2)
    case js2 => rfl
    case jh2 =>
      refine (je_callint rfl T.n_int ?_)
      exact (ja_cons (je_var (pv 3)) ja_nil)
  refine (jss_one ?_)
  refine (js_retO ?_)
  first | with_reducible refine (jf_lst ?_) | refine (jf_lst ?_)
  with_reducible refine ja_cons ?jh3 ?jt3 (hs := ?js3)
  case js3 => rfl
  case jh3 =>
    exact (je_var (pv 2))
  with_reducible refine ja_cons ?jh4 ?jt4 (hs := ?js4)
  case js4 => rfl
  case jh4 =>
    exact je_int
  with_reducible refine ja_cons ?jh5 ?jt5 (hs := ?js5)
  case js5 => rfl
  case jh5 =>
    exact je_int
  exact (ja_cons (je_var (pv 1)) ja_nil)
theorem cal__law_mixed_2 (T : Ft P w K mg cl) : Cal P w K mg base cl 1 "_law_mixed" [false, false] fn__law_mixed [] := by
  obtain ⟨f, fd, F, g⟩ := T.d__law_mixed
  have b : Binds K fd ["_law_number", "_law_turn"] [] := F.bindsN fun _ _ _ _ _ _ us hl => match us, hl with | [_, _], _ => rfl
  refine ⟨f, fd, ["_law_number", "_law_turn"], [], [], ⟨def_okD (N := N__law_mixed) F sc__law_mixed rfl (fun cdv A outer s H E hr tk po => ?_), g, F.kp⟩, b, .nil, fun _ => .nil⟩
  refine (jss_cons ?_ ?_)
  · first | with_reducible refine js_set (i := 2) (hN := ?_) (hi := ?_) (hx := ?_) (he := ?_) (hs := ?_) (hf := ?_) | refine js_set (i := 2) (hN := ?_) (hi := ?_) (hx := ?_) (he := ?_) (hs := ?_) (hf := ?_)
    · exact sc__law_mixed.nd
    · rfl
    · first | exact .inl rfl | exact .inr rfl
    · refine (je_mod ?_ ?_)
      · refine (je_callint rfl T.n_int ?_)
        with_reducible refine ja_cons ?jh6 ja_nil (hs := ?js6)
        case js6 => rfl
        case jh6 =>
          refine (je_add ?_ ?_)
          · refine (je_add ?_ ?_)
            · exact (je_mul (je_var (pv 0)) je_int)
            exact (je_mul (je_var (pv 1)) je_int)
          exact je_int
      exact je_int
    · rfl
    · first | exact .inl rfl | exact .inr rfl
  refine (jss_cons ?_ ?_)
  · first | with_reducible refine js_set (i := 3) (hN := ?_) (hi := ?_) (hx := ?_) (he := ?_) (hs := ?_) (hf := ?_) | refine js_set (i := 3) (hN := ?_) (hi := ?_) (hx := ?_) (he := ?_) (hs := ?_) (hf := ?_)
    · exact sc__law_mixed.nd
    · rfl
    · first | exact .inl rfl | exact .inr rfl
    · refine (je_mod ?_ ?_)
      · refine (je_callint rfl T.n_int ?_)
        with_reducible refine ja_cons ?jh7 ja_nil (hs := ?js7)
        case js7 => rfl
        case jh7 =>
          refine (je_add ?_ ?_)
          · refine (je_add ?_ ?_)
            · exact (je_mul (je_var (pv 2)) (je_var (pv 2)))
            exact (je_mul (je_var (pv 1)) je_int)
          exact (je_div (je_var (pv 2)) je_int)
      exact je_int
    · rfl
    · first | exact .inl rfl | exact .inr rfl
  refine (jss_one ?_)
  refine (js_ret ?_)
  refine (je_div ?_ ?_)
  · refine (je_callint rfl T.n_int ?_)
    with_reducible refine ja_cons ?jh8 ja_nil (hs := ?js8)
    case js8 => rfl
    case jh8 =>
      refine (je_mod ?_ ?_)
      · refine (je_callint rfl T.n_int ?_)
        with_reducible refine ja_cons ?jh9 ja_nil (hs := ?js9)
        case js9 => rfl
        case jh9 =>
          refine (je_add ?_ ?_)
          · exact (je_mul (je_var (pv 3)) je_int)
          exact (je_div (je_var (pv 2)) je_int)
      exact je_int
  exact je_int
theorem cal__law_take_2 (T : Ft P w K mg cl) : Cal P w K mg base cl 2 "_law_take" [true, false] fn__law_take [] := by
  obtain ⟨f, fd, F, g⟩ := T.d__law_take
  have b : Binds K fd ["_law_hand_here", "_law_many"] [] := F.bindsN fun _ _ _ _ _ _ us hl => match us, hl with | [_, _], _ => rfl
  refine ⟨f, fd, ["_law_hand_here", "_law_many"], [], [], ⟨def_okD (N := N__law_take) F sc__law_take rfl (fun cdv A outer s H E hr tk po => ?_), g, F.kp⟩, b, .nil, fun _ => .nil⟩
  refine (jss_cons ?_ ?_)
  · refine (js_if ?_ ?_ ?_)
    · refine (JW.jt ?_)
      refine (jw_and ?_ (jw_and1 ?_))
      · refine (jt_cm (cr_eq (hu64 hr)) ?_ ?_)
        · exact (je_ixV (pv 0) je_int)
        exact je_int
      refine (jt_cm cr_lt ?_ ?_)
      · exact (je_ixV (pv 0) je_int)
      refine (je_len rfl T.n_len ?_)
      with_reducible refine ja_cons ?jh10 ja_nil (hs := ?js10)
      case js10 => rfl
      case jh10 =>
        exact (je_ixV (pv 0) je_int)
    · refine (jss_cons ?_ ?_)
      · first | with_reducible refine js_set (i := 2) (hN := ?_) (hi := ?_) (hx := ?_) (he := ?_) (hs := ?_) (hf := ?_) | refine js_set (i := 2) (hN := ?_) (hi := ?_) (hx := ?_) (he := ?_) (hs := ?_) (hf := ?_)
        · exact sc__law_take.nd
        · rfl
        · first | exact .inl rfl | exact .inr rfl
        · with_reducible refine je_ix ?jh11 ?jt11 (hs := ?js11)
          case js11 => exact fun _ _ => rfl
          case jh11 =>
            exact (je_ixV (pv 0) je_int)
          exact (je_ixV (pv 0) je_int)
        · rfl
        · first | exact .inl rfl | exact .inr rfl
      refine (jss_cons ?_ ?_)
      · refine (js_put (pv 0) ?_ ?_)
        · exact je_int
        refine (je_add ?_ ?_)
        · exact (je_ixV (pv 0) je_int)
        exact je_int
      refine (jss_cons ?_ ?_)
      · refine (js_if ?_ ?_ ?_)
        · refine (jt_cm cr_lt ?_ ?_)
          · exact (je_var (pv 2))
          exact (je_pow je_int je_int)
        · refine (jss_one ?_)
          refine (js_ret ?_)
          refine (je_mod ?_ ?_)
          · refine (je_callint rfl T.n_int ?_)
            with_reducible refine ja_cons ?jh12 ja_nil (hs := ?js12)
            case js12 => rfl
            case jh12 =>
              refine (je_callC (cal__law_mixed_2 T) (hr.mono (by decide)) tk ?_)
              with_reducible refine ja_cons ?jh13 ?jt13 (hs := ?js13)
              case js13 => rfl
              case jh13 =>
                refine (je_mod ?_ ?_)
                · refine (je_callint rfl T.n_int ?_)
                  exact (ja_cons (je_var (pv 2)) ja_nil)
                exact je_int
              with_reducible refine ja_cons ?jh14 ja_nil (hs := ?js14)
              case js14 => rfl
              case jh14 =>
                exact (je_ixV (pv 0) je_int)
          exact (je_var (pv 1))
        exact jss_nil
      refine (jss_one ?_)
      exact (js_put (pv 0) je_int (je_var (pv 2)))
    exact jss_nil
  refine (jss_cons ?_ ?_)
  · refine (js_if ?_ ?_ ?_)
    · refine (jt_cm cr_gt ?_ ?_)
      · exact (je_ixV (pv 0) je_int)
      exact je_int
    · refine (jss_cons ?_ ?_)
      · first | with_reducible refine js_set (i := 3) (hN := ?_) (hi := ?_) (hx := ?_) (he := ?_) (hs := ?_) (hf := ?_) | refine js_set (i := 3) (hN := ?_) (hi := ?_) (hx := ?_) (he := ?_) (hs := ?_) (hf := ?_)
        · exact sc__law_take.nd
        · rfl
        · first | exact .inl rfl | exact .inr rfl
        · exact (je_ixV (pv 0) je_int)
        · rfl
        · first | exact .inl rfl | exact .inr rfl
      refine (jss_cons ?_ ?_)
      · refine (js_put (pv 0) ?_ ?_)
        · exact je_int
        refine (je_div ?_ ?_)
        · refine (je_callint rfl T.n_int ?_)
          exact (ja_cons (je_var (pv 3)) ja_nil)
        exact (je_var (pv 1))
      refine (jss_one ?_)
      refine (js_ret ?_)
      refine (je_mod ?_ ?_)
      · refine (je_callint rfl T.n_int ?_)
        exact (ja_cons (je_var (pv 3)) ja_nil)
      exact (je_var (pv 1))
    exact jss_nil
  refine (jss_cons ?_ ?_)
  · refine (js_put (pv 0) ?_ ?_)
    · exact je_int
    refine (je_mod ?_ ?_)
    · refine (je_callint rfl T.n_int ?_)
      with_reducible refine ja_cons ?jh15 ja_nil (hs := ?js15)
      case js15 => rfl
      case jh15 =>
        refine (je_add ?_ ?_)
        · exact (je_ixV (pv 0) je_int)
        exact je_int
    exact je_int
  refine (jss_one ?_)
  refine (js_ret ?_)
  refine (je_mod ?_ ?_)
  · refine (je_callint rfl T.n_int ?_)
    with_reducible refine ja_cons ?jh16 ja_nil (hs := ?js16)
    case js16 => rfl
    case jh16 =>
      refine (je_callC (cal__law_mixed_2 T) (hr.mono (by decide)) tk ?_)
      with_reducible refine ja_cons ?jh17 ?jt17 (hs := ?js17)
      case js17 => rfl
      case jh17 =>
        exact (je_ixV (pv 0) je_int)
      with_reducible refine ja_cons ?jh18 ja_nil (hs := ?js18)
      case js18 => rfl
      case jh18 =>
        exact (je_ixV (pv 0) je_int)
  exact (je_var (pv 1))
theorem cal__law_int_1 (T : Ft P w K mg cl) : Cal P w K mg base cl 1 "_law_int" [false] fn__law_int [] := by
  obtain ⟨f, fd, F, g⟩ := T.d__law_int
  have b : Binds K fd ["_law_thing"] [] := F.bindsN fun _ _ _ _ _ _ us hl => match us, hl with | [_], _ => rfl
  refine ⟨f, fd, ["_law_thing"], [], [], ⟨def_okD (N := N__law_int) F sc__law_int rfl (fun cdv A outer s H E hr tk po => ?_), g, F.kp⟩, b, .nil, fun _ => .nil⟩
  refine (jss_one ?_)
  refine (js_ret ?_)
  refine (je_and ?_ (je_one ?_))
  · exact (je_isi (x := "") (T' := "int") (by decide) rfl T.n_isinstance (pe_tyn T.n_int (by decide +kernel)) (je_var (pv 0)))
  refine (je_not ?_)
  exact (je_isi (x := "") (T' := "bool") (by decide) rfl T.n_isinstance (pe_tyn T.n_bool (by decide +kernel)) (je_var (pv 0)))
theorem cal__law_exact_2 (T : Ft P w K mg cl) : ∀ n, Cal P w K mg base cl (1 + n) "_law_exact" [false, false] (fn__law_exact n) []
  | 0 => by
    obtain ⟨f, fd, F, g⟩ := T.d__law_exact
    exact ⟨f, fd, ["_law_told", "_law_due"], [], [], ⟨none_ok fun _ => rfl, g, F.kp⟩, F.bindsN fun _ _ _ _ _ _ us hl => match us, hl with | [_, _], _ => rfl, .nil, fun _ => .nil⟩
  | n + 1 => by
    have ih := cal__law_exact_2 T n
    obtain ⟨f, fd, F, g⟩ := T.d__law_exact
    have b : Binds K fd ["_law_told", "_law_due"] [] := F.bindsN fun _ _ _ _ _ _ us hl => match us, hl with | [_, _], _ => rfl
    refine ⟨f, fd, ["_law_told", "_law_due"], [], [], ⟨def_okD (N := N__law_exact) F sc__law_exact rfl (fun cdv A outer s H E hr tk po => ?_), g, F.kp⟩, b, .nil, fun _ => .nil⟩
    refine (jss_cons ?_ ?_)
    · refine (js_if ?_ ?_ ?_)
      · refine (jt_truth ?_ (fun _ => rfl))
        exact (je_isi (x := "") (T' := "tuple") (by decide) rfl T.n_isinstance (pe_tyn T.n_tuple (by decide +kernel)) (je_var (pv 1)))
      · refine (jss_cons ?_ ?_)
        · refine (js_if ?_ ?_ ?_)
          · refine (JW.jt ?_)
            refine (jw_or ?_ (jw_or1 ?_))
            · refine (jt_not ?_)
              refine (jt_truth ?_ (fun _ => rfl))
              exact (je_isi (x := "") (T' := "tuple") (by decide) rfl T.n_isinstance (pe_tyn T.n_tuple (by decide +kernel)) (je_var (pv 0)))
            exact (jt_cm (cr_ne (hu64 hr)) (je_lenV rfl T.n_len (pv 0)) (je_lenV rfl T.n_len (pv 1)))
          · refine (jss_one ?_)
            exact (js_ret je_bl)
          exact jss_nil
        refine (jss_one ?_)
        refine (js_ret ?_)
        first | with_reducible refine (je_cm (cr_eq (hu64 hr)) (JF.je ?_) (JF.je ?_)) | refine (je_cm (cr_eq (hu64 hr)) (JF.je ?_) (JF.je ?_))
        · refine (jf_comp (own := [("_law_k", 2)]) (ts := [2]) rfl sc__law_exact.nd ?_ (blkOk_by (N := N__law_exact) (sc := (defScope s__law_exact)) (by decide +kernel)) (by decide) (fun _ _ _ _ _ => ?_) (fun _ _ _ _ _ => (jts_one ?_)) (fun _ _ _ _ _ => ?_))
          · exact (ji_range1 rfl T.n_range (je_lenV rfl T.n_len (pv 1)))
          · exact (jg_name (pg_name (i := 2) sc__law_exact.nd rfl (by first | exact .inl rfl | exact .inr rfl)))
          · refine (jt_not ?_)
            refine (jt_truth ?_ (fun _ => rfl))
            refine (je_callC (ih) hr takes0 ?_)
            with_reducible refine ja_cons ?jh19 ?jt19 (hs := ?js19)
            case js19 => rfl
            case jh19 =>
              exact (je_ixV (pv 0) (je_var (pv 2)))
            with_reducible refine ja_cons ?jh20 ja_nil (hs := ?js20)
            case js20 => rfl
            case jh20 =>
              exact (je_ixV (pv 1) (je_var (pv 2)))
          exact (je_var (pv 2))
        exact (jf_lst ja_nil)
      exact jss_nil
    refine (jss_cons ?_ ?_)
    · refine (js_if ?_ ?_ ?_)
      · exact (jt_cm cr_is (je_var (pv 1)) je_non)
      · refine (jss_one ?_)
        refine (js_ret ?_)
        exact (je_cm cr_is (je_var (pv 0)) je_non)
      exact jss_nil
    refine (jss_cons ?_ ?_)
    · refine (js_if ?_ ?_ ?_)
      · refine (jt_truth ?_ (fun _ => rfl))
        exact (je_isi (x := "") (T' := "bool") (by decide) rfl T.n_isinstance (pe_tyn T.n_bool (by decide +kernel)) (je_var (pv 1)))
      · refine (jss_one ?_)
        refine (js_ret ?_)
        refine (je_if ?_ ?_ ?_)
        · exact (jt_truV (pv 1) (fun _ => rfl))
        · exact (je_cm cr_is (je_var (pv 0)) je_bl)
        exact (je_cm cr_is (je_var (pv 0)) je_bl)
      exact jss_nil
    refine (jss_cons ?_ ?_)
    · refine (js_if ?_ ?_ ?_)
      · refine (jt_truth ?_ (fun _ => rfl))
        exact (je_isi (x := "") (T' := "str") (by decide) rfl T.n_isinstance (pe_tyn T.n_str (by decide +kernel)) (je_var (pv 1)))
      · refine (jss_one ?_)
        refine (js_ret ?_)
        refine (je_and ?_ (je_one ?_))
        · exact (je_isi (x := "") (T' := "str") (by decide) rfl T.n_isinstance (pe_tyn T.n_str (by decide +kernel)) (je_var (pv 0)))
        exact (je_cm (cr_eq (hu64 hr)) (je_var (pv 0)) (je_var (pv 1)))
      exact jss_nil
    refine (jss_one ?_)
    refine (js_ret ?_)
    refine (je_and ?_ (je_one ?_))
    · refine (je_callC (cal__law_int_1 T) (hr.mono (Nat.le_trans (m := 1) (by decide) (Nat.le_add_right _ _))) tk ?_)
      exact (ja_cons (je_var (pv 0)) ja_nil)
    exact (je_cm (cr_eq (hu64 hr)) (je_var (pv 0)) (je_var (pv 1)))
theorem cal__law_bare_0 (T : Ft P w K mg cl) : Cal P w K mg base cl 1 "_law_bare" [] fn__law_bare [] := by
  obtain ⟨f, fd, F, g⟩ := T.d__law_bare
  have b : Binds K fd [] [] := F.bindsN fun _ _ _ _ _ _ us hl => match us, hl with | [], _ => rfl
  refine ⟨f, fd, [], [], [], ⟨def_okD (N := N__law_bare) F sc__law_bare rfl (fun cdv A outer s H E hr tk po => ?_), g, F.kp⟩, b, .nil, fun _ => .nil⟩
  refine (jss_cons ?_ ?_)
  · first | with_reducible refine js_set (i := 0) (hN := ?_) (hi := ?_) (hx := ?_) (he := ?_) (hs := ?_) (hf := ?_) | refine js_set (i := 0) (hN := ?_) (hi := ?_) (hx := ?_) (he := ?_) (hs := ?_) (hf := ?_)
    · exact sc__law_bare.nd
    · rfl
    · first | exact .inl rfl | exact .inr rfl
    · first | with_reducible refine (JF.je ?_) | refine (JF.je ?_)
      first | with_reducible refine (jf_lst ?_) | refine (jf_lst ?_)
      with_reducible refine ja_cons ?jh21 ?jt21 (hs := ?js21)
      case js21 => rfl
      case jh21 =>
        exact (je_mk0C T.mx_BadStands)
      with_reducible refine ja_cons ?jh22 ?jt22 (hs := ?js22)
      case js22 => rfl
      case jh22 =>
        exact (je_mk0C T.mx_BadLot)
      with_reducible refine ja_cons ?jh23 ?jt23 (hs := ?js23)
      case js23 => rfl
      case jh23 =>
        exact (je_mk0C T.mx_NoMember)
      with_reducible refine ja_cons ?jh24 ?jt24 (hs := ?js24)
      case js24 => rfl
      case jh24 =>
        exact (je_mk0C T.mx_UnlikeStands)
      with_reducible refine ja_cons ?jh25 ?jt25 (hs := ?js25)
      case js25 => rfl
      case jh25 =>
        exact (je_mk0C T.mx_NotAgain)
      with_reducible refine ja_cons ?jh26 ?jt26 (hs := ?js26)
      case js26 => rfl
      case jh26 =>
        exact (je_mk0C T.mx_BadKind)
      with_reducible refine ja_cons ?jh27 ?jt27 (hs := ?js27)
      case js27 => rfl
      case jh27 =>
        exact (je_mk0C T.mx_BadManner)
      with_reducible refine ja_cons ?jh28 ?jt28 (hs := ?js28)
      case js28 => rfl
      case jh28 =>
        exact (je_mk0C T.mx_NotAll)
      exact (ja_cons (je_mk0C T.mx_NoCounter) ja_nil)
    · rfl
    · first | exact .inl rfl | exact .inr rfl
  refine (jss_one ?_)
  refine (js_ret ?_)
  first | with_reducible refine (je_add ?_ (JF.je ?_)) | refine (je_add ?_ (JF.je ?_))
  · exact (je_var (pv 0))
  first | with_reducible refine (jf_lst ?_) | refine (jf_lst ?_)
  with_reducible refine ja_cons ?jh29 ?jt29 (hs := ?js29)
  case js29 => rfl
  case jh29 =>
    exact (je_mk0C T.mx_BadMost)
  with_reducible refine ja_cons ?jh30 ?jt30 (hs := ?js30)
  case js30 => rfl
  case jh30 =>
    exact (je_mk0C T.mx_BadSide)
  exact (ja_cons (je_mk0C T.mx_NoDeed) ja_nil)
theorem cal__law_singles_1 (T : Ft P w K mg cl) : Cal P w K mg base cl 3 "_law_singles" [false] fn__law_singles [] := by
  obtain ⟨f, fd, F, g⟩ := T.d__law_singles
  have b : Binds K fd ["_law_a"] [] := F.bindsN fun _ _ _ _ _ _ us hl => match us, hl with | [_], _ => rfl
  refine ⟨f, fd, ["_law_a"], [], [], ⟨def_okD (N := N__law_singles) F sc__law_singles rfl (fun cdv A outer s H E hr tk po => ?_), g, F.kp⟩, b, .nil, fun _ => .nil⟩
  refine (jss_cons ?_ ?_)
  · first | with_reducible refine js_set (i := 1) (hN := ?_) (hi := ?_) (hx := ?_) (he := ?_) (hs := ?_) (hf := ?_) | refine js_set (i := 1) (hN := ?_) (hi := ?_) (hx := ?_) (he := ?_) (hs := ?_) (hf := ?_)
    · exact sc__law_singles.nd
    · rfl
    · first | exact .inl rfl | exact .inr rfl
    · first | with_reducible refine (JF.je ?_) | refine (JF.je ?_)
      first | with_reducible refine (jf_lst ?_) | refine (jf_lst ?_)
      with_reducible refine ja_cons ?jh31 ?jt31 (hs := ?js31)
      case js31 => rfl
      case jh31 =>
        refine (je_mkF (calX_TooMany T) (hr.mono (by decide)) ?_)
        exact (ja_cons (je_var (pv 0)) ja_nil)
      with_reducible refine ja_cons ?jh32 ?jt32 (hs := ?js32)
      case js32 => rfl
      case jh32 =>
        refine (je_mkF (calX_BadRow T) (hr.mono (by decide)) ?_)
        exact (ja_cons (je_var (pv 0)) ja_nil)
      with_reducible refine ja_cons ?jh33 ?jt33 (hs := ?js33)
      case js33 => rfl
      case jh33 =>
        refine (je_mkF (calX_NoStep T) (hr.mono (by decide)) ?_)
        exact (ja_cons (je_var (pv 0)) ja_nil)
      with_reducible refine ja_cons ?jh34 ?jt34 (hs := ?js34)
      case js34 => rfl
      case jh34 =>
        refine (je_mkF (calX_BadProgram T) (hr.mono (by decide)) ?_)
        exact (ja_cons (je_var (pv 0)) ja_nil)
      with_reducible refine ja_cons ?jh35 ?jt35 (hs := ?js35)
      case js35 => rfl
      case jh35 =>
        refine (je_mkF (calX_BadStand T) (hr.mono (by decide)) ?_)
        exact (ja_cons (je_var (pv 0)) ja_nil)
      with_reducible refine ja_cons ?jh36 ?jt36 (hs := ?js36)
      case js36 => rfl
      case jh36 =>
        refine (je_mkF (calX_NoWay T) (hr.mono (by decide)) ?_)
        exact (ja_cons (je_var (pv 0)) ja_nil)
      with_reducible refine ja_cons ?jh37 ?jt37 (hs := ?js37)
      case js37 => rfl
      case jh37 =>
        refine (je_mkF (calX_NotLet T) (hr.mono (by decide)) ?_)
        exact (ja_cons (je_var (pv 0)) ja_nil)
      with_reducible refine ja_cons ?jh38 ja_nil (hs := ?js38)
      case js38 => rfl
      case jh38 =>
        refine (je_mkF (calX_BadRewriting T) (hr.mono (by decide)) ?_)
        exact (ja_cons (je_var (pv 0)) ja_nil)
    · rfl
    · first | exact .inl rfl | exact .inr rfl
  refine (jss_cons ?_ ?_)
  · first | with_reducible refine js_set (i := 2) (hN := ?_) (hi := ?_) (hx := ?_) (he := ?_) (hs := ?_) (hf := ?_) | refine js_set (i := 2) (hN := ?_) (hi := ?_) (hx := ?_) (he := ?_) (hs := ?_) (hf := ?_)
    · exact sc__law_singles.nd
    · rfl
    · first | exact .inl rfl | exact .inr rfl
    · first | with_reducible refine (JF.je ?_) | refine (JF.je ?_)
      first | with_reducible refine (jf_lst ?_) | refine (jf_lst ?_)
      with_reducible refine ja_cons ?jh39 ?jt39 (hs := ?js39)
      case js39 => rfl
      case jh39 =>
        refine (je_xfv T.xv_most ?_)
        exact (je_ixV (pv 1) je_int)
      with_reducible refine ja_cons ?jh40 ?jt40 (hs := ?js40)
      case js40 => rfl
      case jh40 =>
        refine (je_xfv T.xv_place ?_)
        exact (je_ixV (pv 1) je_int)
      with_reducible refine ja_cons ?jh41 ?jt41 (hs := ?js41)
      case js41 => rfl
      case jh41 =>
        refine (je_xfv T.xv_name ?_)
        exact (je_ixV (pv 1) je_int)
      with_reducible refine ja_cons ?jh42 ?jt42 (hs := ?js42)
      case js42 => rfl
      case jh42 =>
        refine (je_xfv T.xv_what ?_)
        exact (je_ixV (pv 1) je_int)
      with_reducible refine ja_cons ?jh43 ?jt43 (hs := ?js43)
      case js43 => rfl
      case jh43 =>
        refine (je_xfv T.xv_stand ?_)
        exact (je_ixV (pv 1) je_int)
      with_reducible refine ja_cons ?jh44 ?jt44 (hs := ?js44)
      case js44 => rfl
      case jh44 =>
        refine (je_xfv T.xv_stand ?_)
        exact (je_ixV (pv 1) je_int)
      with_reducible refine ja_cons ?jh45 ?jt45 (hs := ?js45)
      case js45 => rfl
      case jh45 =>
        refine (je_xfv T.xv_what ?_)
        exact (je_ixV (pv 1) je_int)
      with_reducible refine ja_cons ?jh46 ja_nil (hs := ?js46)
      case js46 => rfl
      case jh46 =>
        refine (je_xfv T.xv_what ?_)
        exact (je_ixV (pv 1) je_int)
    · rfl
    · first | exact .inl rfl | exact .inr rfl
  refine (jss_cons ?_ ?_)
  · first | with_reducible refine js_set (i := 3) (hN := ?_) (hi := ?_) (hx := ?_) (he := ?_) (hs := ?_) (hf := ?_) | refine js_set (i := 3) (hN := ?_) (hi := ?_) (hx := ?_) (he := ?_) (hs := ?_) (hf := ?_)
    · exact sc__law_singles.nd
    · rfl
    · first | exact .inl rfl | exact .inr rfl
    · first | with_reducible refine (JF.je ?_) | refine (JF.je ?_)
      first | with_reducible refine (jf_lst ?_) | refine (jf_lst ?_)
      with_reducible refine ja_cons ?jh47 ?jt47 (hs := ?js47)
      case js47 => rfl
      case jh47 =>
        refine (je_mkF (calX_NoMove T) (hr.mono (by decide)) ?_)
        exact (ja_cons (je_var (pv 0)) ja_nil)
      with_reducible refine ja_cons ?jh48 ?jt48 (hs := ?js48)
      case js48 => rfl
      case jh48 =>
        refine (je_mkF (calX_NotTest T) (hr.mono (by decide)) ?_)
        exact (ja_cons (je_var (pv 0)) ja_nil)
      with_reducible refine ja_cons ?jh49 ?jt49 (hs := ?js49)
      case js49 => rfl
      case jh49 =>
        refine (je_mkF (calX_NotEven T) (hr.mono (by decide)) ?_)
        exact (ja_cons (je_var (pv 0)) ja_nil)
      with_reducible refine ja_cons ?jh50 ?jt50 (hs := ?js50)
      case js50 => rfl
      case jh50 =>
        refine (je_mkF (calX_BadPair T) (hr.mono (by decide)) ?_)
        exact (ja_cons (je_var (pv 0)) ja_nil)
      with_reducible refine ja_cons ?jh51 ?jt51 (hs := ?js51)
      case js51 => rfl
      case jh51 =>
        refine (je_mkF (calX_BadFact T) (hr.mono (by decide)) ?_)
        exact (ja_cons (je_var (pv 0)) ja_nil)
      with_reducible refine ja_cons ?jh52 ?jt52 (hs := ?js52)
      case js52 => rfl
      case jh52 =>
        refine (je_mkF (calX_Spoilt T) (hr.mono (by decide)) ?_)
        exact (ja_cons (je_var (pv 0)) ja_nil)
      with_reducible refine ja_cons ?jh53 ja_nil (hs := ?js53)
      case js53 => rfl
      case jh53 =>
        refine (je_mkF (calX_BadDemand T) (hr.mono (by decide)) ?_)
        exact (ja_cons (je_var (pv 0)) ja_nil)
    · rfl
    · first | exact .inl rfl | exact .inr rfl
  refine (jss_cons ?_ ?_)
  · first | with_reducible refine js_set (i := 2) (hN := ?_) (hi := ?_) (hx := ?_) (he := ?_) (hs := ?_) (hf := ?_) | refine js_set (i := 2) (hN := ?_) (hi := ?_) (hx := ?_) (he := ?_) (hs := ?_) (hf := ?_)
    · exact sc__law_singles.nd
    · rfl
    · first | exact .inl rfl | exact .inr rfl
    · first | with_reducible refine (je_add ?_ (JF.je ?_)) | refine (je_add ?_ (JF.je ?_))
      · exact (je_var (pv 2))
      first | with_reducible refine (jf_lst ?_) | refine (jf_lst ?_)
      with_reducible refine ja_cons ?jh54 ?jt54 (hs := ?js54)
      case js54 => rfl
      case jh54 =>
        refine (je_xfv T.xv_what ?_)
        exact (je_ixV (pv 3) je_int)
      with_reducible refine ja_cons ?jh55 ?jt55 (hs := ?js55)
      case js55 => rfl
      case jh55 =>
        refine (je_xfv T.xv_name ?_)
        exact (je_ixV (pv 3) je_int)
      with_reducible refine ja_cons ?jh56 ?jt56 (hs := ?js56)
      case js56 => rfl
      case jh56 =>
        refine (je_xfv T.xv_member ?_)
        exact (je_ixV (pv 3) je_int)
      with_reducible refine ja_cons ?jh57 ?jt57 (hs := ?js57)
      case js57 => rfl
      case jh57 =>
        refine (je_xfv T.xv_what ?_)
        exact (je_ixV (pv 3) je_int)
      with_reducible refine ja_cons ?jh58 ?jt58 (hs := ?js58)
      case js58 => rfl
      case jh58 =>
        refine (je_xfv T.xv_place ?_)
        exact (je_ixV (pv 3) je_int)
      with_reducible refine ja_cons ?jh59 ?jt59 (hs := ?js59)
      case js59 => rfl
      case jh59 =>
        refine (je_xfv T.xv_place ?_)
        exact (je_ixV (pv 3) je_int)
      with_reducible refine ja_cons ?jh60 ja_nil (hs := ?js60)
      case js60 => rfl
      case jh60 =>
        refine (je_xfv T.xv_place ?_)
        exact (je_ixV (pv 3) je_int)
    · rfl
    · first | exact .inl rfl | exact .inr rfl
  refine (jss_one ?_)
  first | with_reducible refine (js_ret (JF.je ?_)) | refine (js_ret (JF.je ?_))
  first | with_reducible refine (jf_lst ?_) | refine (jf_lst ?_)
  with_reducible refine ja_cons ?jh61 ?jt61 (hs := ?js61)
  case js61 => rfl
  case jh61 =>
    exact (je_add (je_var (pv 1)) (je_var (pv 3)))
  exact (ja_cons (je_var (pv 2)) ja_nil)
theorem cal__law_pairs_2 (T : Ft P w K mg cl) : Cal P w K mg base cl 3 "_law_pairs" [false, false] fn__law_pairs [] := by
  obtain ⟨f, fd, F, g⟩ := T.d__law_pairs
  have b : Binds K fd ["_law_a", "_law_b"] [] := F.bindsN fun _ _ _ _ _ _ us hl => match us, hl with | [_, _], _ => rfl
  refine ⟨f, fd, ["_law_a", "_law_b"], [], [], ⟨def_okD (N := N__law_pairs) F sc__law_pairs rfl (fun cdv A outer s H E hr tk po => ?_), g, F.kp⟩, b, .nil, fun _ => .nil⟩
  refine (jss_cons ?_ ?_)
  · first | with_reducible refine js_set (i := 2) (hN := ?_) (hi := ?_) (hx := ?_) (he := ?_) (hs := ?_) (hf := ?_) | refine js_set (i := 2) (hN := ?_) (hi := ?_) (hx := ?_) (he := ?_) (hs := ?_) (hf := ?_)
    · exact sc__law_pairs.nd
    · rfl
    · first | exact .inl rfl | exact .inr rfl
    · first | with_reducible refine (JF.je ?_) | refine (JF.je ?_)
      first | with_reducible refine (jf_lst ?_) | refine (jf_lst ?_)
      with_reducible refine ja_cons ?jh62 ?jt62 (hs := ?js62)
      case js62 => rfl
      case jh62 =>
        refine (je_mkF (calX_BadGlasses T) (hr.mono (by decide)) ?_)
        with_reducible refine ja_cons ?jh63 ?jt63 (hs := ?js63)
        case js63 => rfl
        case jh63 =>
          exact (je_var (pv 0))
        exact (ja_cons (je_var (pv 1)) ja_nil)
      with_reducible refine ja_cons ?jh64 ?jt64 (hs := ?js64)
      case js64 => rfl
      case jh64 =>
        refine (je_mkF (calX_BadText T) (hr.mono (by decide)) ?_)
        with_reducible refine ja_cons ?jh65 ?jt65 (hs := ?js65)
        case js65 => rfl
        case jh65 =>
          exact (je_var (pv 0))
        exact (ja_cons (je_var (pv 1)) ja_nil)
      with_reducible refine ja_cons ?jh66 ?jt66 (hs := ?js66)
      case js66 => rfl
      case jh66 =>
        refine (je_mkF (calX_BadSteps T) (hr.mono (by decide)) ?_)
        with_reducible refine ja_cons ?jh67 ?jt67 (hs := ?js67)
        case js67 => rfl
        case jh67 =>
          exact (je_var (pv 0))
        exact (ja_cons (je_var (pv 1)) ja_nil)
      with_reducible refine ja_cons ?jh68 ?jt68 (hs := ?js68)
      case js68 => rfl
      case jh68 =>
        refine (je_mkF (calX_BadLines T) (hr.mono (by decide)) ?_)
        with_reducible refine ja_cons ?jh69 ?jt69 (hs := ?js69)
        case js69 => rfl
        case jh69 =>
          exact (je_var (pv 0))
        exact (ja_cons (je_var (pv 1)) ja_nil)
      with_reducible refine ja_cons ?jh70 ?jt70 (hs := ?js70)
      case js70 => rfl
      case jh70 =>
        refine (je_mkF (calX_BadMove T) (hr.mono (by decide)) ?_)
        with_reducible refine ja_cons ?jh71 ?jt71 (hs := ?js71)
        case js71 => rfl
        case jh71 =>
          exact (je_var (pv 0))
        exact (ja_cons (je_var (pv 1)) ja_nil)
      with_reducible refine ja_cons ?jh72 ?jt72 (hs := ?js72)
      case js72 => rfl
      case jh72 =>
        refine (je_mkF (calX_BadCells T) (hr.mono (by decide)) ?_)
        with_reducible refine ja_cons ?jh73 ?jt73 (hs := ?js73)
        case js73 => rfl
        case jh73 =>
          exact (je_var (pv 0))
        exact (ja_cons (je_var (pv 1)) ja_nil)
      with_reducible refine ja_cons ?jh74 ?jt74 (hs := ?js74)
      case js74 => rfl
      case jh74 =>
        refine (je_mkF (calX_NoneFits T) (hr.mono (by decide)) ?_)
        with_reducible refine ja_cons ?jh75 ?jt75 (hs := ?js75)
        case js75 => rfl
        case jh75 =>
          exact (je_var (pv 0))
        exact (ja_cons (je_var (pv 1)) ja_nil)
      with_reducible refine ja_cons ?jh76 ja_nil (hs := ?js76)
      case js76 => rfl
      case jh76 =>
        refine (je_mkF (calX_BadEdit T) (hr.mono (by decide)) ?_)
        with_reducible refine ja_cons ?jh77 ?jt77 (hs := ?js77)
        case js77 => rfl
        case jh77 =>
          exact (je_var (pv 0))
        exact (ja_cons (je_var (pv 1)) ja_nil)
    · rfl
    · first | exact .inl rfl | exact .inr rfl
  refine (jss_cons ?_ ?_)
  · first | with_reducible refine js_set (i := 3) (hN := ?_) (hi := ?_) (hx := ?_) (he := ?_) (hs := ?_) (hf := ?_) | refine js_set (i := 3) (hN := ?_) (hi := ?_) (hx := ?_) (he := ?_) (hs := ?_) (hf := ?_)
    · exact sc__law_pairs.nd
    · rfl
    · first | exact .inl rfl | exact .inr rfl
    · first | with_reducible refine (JF.je ?_) | refine (JF.je ?_)
      first | with_reducible refine (jf_lst ?_) | refine (jf_lst ?_)
      with_reducible refine ja_cons ?jh78 ?jt78 (hs := ?js78)
      case js78 => rfl
      case jh78 =>
        first | with_reducible refine (je_tup ?_) | refine (je_tup ?_)
        with_reducible refine ja_cons ?jh79 ?jt79 (hs := ?js79)
        case js79 => rfl
        case jh79 =>
          refine (je_xfv T.xv_what ?_)
          exact (je_ixV (pv 2) je_int)
        with_reducible refine ja_cons ?jh80 ja_nil (hs := ?js80)
        case js80 => rfl
        case jh80 =>
          refine (je_xfv T.xv_place ?_)
          exact (je_ixV (pv 2) je_int)
      with_reducible refine ja_cons ?jh81 ?jt81 (hs := ?js81)
      case js81 => rfl
      case jh81 =>
        first | with_reducible refine (je_tup ?_) | refine (je_tup ?_)
        with_reducible refine ja_cons ?jh82 ?jt82 (hs := ?js82)
        case js82 => rfl
        case jh82 =>
          refine (je_xfv T.xv_at ?_)
          exact (je_ixV (pv 2) je_int)
        with_reducible refine ja_cons ?jh83 ja_nil (hs := ?js83)
        case js83 => rfl
        case jh83 =>
          refine (je_xfv T.xv_what ?_)
          exact (je_ixV (pv 2) je_int)
      with_reducible refine ja_cons ?jh84 ?jt84 (hs := ?js84)
      case js84 => rfl
      case jh84 =>
        first | with_reducible refine (je_tup ?_) | refine (je_tup ?_)
        with_reducible refine ja_cons ?jh85 ?jt85 (hs := ?js85)
        case js85 => rfl
        case jh85 =>
          refine (je_xfv T.xv_what ?_)
          exact (je_ixV (pv 2) je_int)
        with_reducible refine ja_cons ?jh86 ja_nil (hs := ?js86)
        case js86 => rfl
        case jh86 =>
          refine (je_xfv T.xv_place ?_)
          exact (je_ixV (pv 2) je_int)
      with_reducible refine ja_cons ?jh87 ja_nil (hs := ?js87)
      case js87 => rfl
      case jh87 =>
        first | with_reducible refine (je_tup ?_) | refine (je_tup ?_)
        with_reducible refine ja_cons ?jh88 ?jt88 (hs := ?js88)
        case js88 => rfl
        case jh88 =>
          refine (je_xfv T.xv_number ?_)
          exact (je_ixV (pv 2) je_int)
        with_reducible refine ja_cons ?jh89 ja_nil (hs := ?js89)
        case js89 => rfl
        case jh89 =>
          refine (je_xfv T.xv_word ?_)
          exact (je_ixV (pv 2) je_int)
    · rfl
    · first | exact .inl rfl | exact .inr rfl
  refine (jss_cons ?_ ?_)
  · first | with_reducible refine js_set (i := 3) (hN := ?_) (hi := ?_) (hx := ?_) (he := ?_) (hs := ?_) (hf := ?_) | refine js_set (i := 3) (hN := ?_) (hi := ?_) (hx := ?_) (he := ?_) (hs := ?_) (hf := ?_)
    · exact sc__law_pairs.nd
    · rfl
    · first | exact .inl rfl | exact .inr rfl
    · first | with_reducible refine (je_add ?_ (JF.je ?_)) | refine (je_add ?_ (JF.je ?_))
      · exact (je_var (pv 3))
      first | with_reducible refine (jf_lst ?_) | refine (jf_lst ?_)
      with_reducible refine ja_cons ?jh90 ?jt90 (hs := ?js90)
      case js90 => rfl
      case jh90 =>
        first | with_reducible refine (je_tup ?_) | refine (je_tup ?_)
        with_reducible refine ja_cons ?jh91 ?jt91 (hs := ?js91)
        case js91 => rfl
        case jh91 =>
          refine (je_xfv T.xv_index ?_)
          exact (je_ixV (pv 2) je_int)
        with_reducible refine ja_cons ?jh92 ja_nil (hs := ?js92)
        case js92 => rfl
        case jh92 =>
          refine (je_xfv T.xv_what ?_)
          exact (je_ixV (pv 2) je_int)
      with_reducible refine ja_cons ?jh93 ?jt93 (hs := ?js93)
      case js93 => rfl
      case jh93 =>
        first | with_reducible refine (je_tup ?_) | refine (je_tup ?_)
        with_reducible refine ja_cons ?jh94 ?jt94 (hs := ?js94)
        case js94 => rfl
        case jh94 =>
          refine (je_xfv T.xv_what ?_)
          exact (je_ixV (pv 2) je_int)
        with_reducible refine ja_cons ?jh95 ja_nil (hs := ?js95)
        case js95 => rfl
        case jh95 =>
          refine (je_xfv T.xv_place ?_)
          exact (je_ixV (pv 2) je_int)
      with_reducible refine ja_cons ?jh96 ja_nil (hs := ?js96)
      case js96 => rfl
      case jh96 =>
        first | with_reducible refine (je_tup ?_) | refine (je_tup ?_)
        with_reducible refine ja_cons ?jh97 ?jt97 (hs := ?js97)
        case js97 => rfl
        case jh97 =>
          refine (je_xfv T.xv_place ?_)
          exact (je_ixV (pv 2) je_int)
        with_reducible refine ja_cons ?jh98 ja_nil (hs := ?js98)
        case js98 => rfl
        case jh98 =>
          refine (je_xfv T.xv_other ?_)
          exact (je_ixV (pv 2) je_int)
    · rfl
    · first | exact .inl rfl | exact .inr rfl
  refine (jss_one ?_)
  first | with_reducible refine (js_ret (JF.je ?_)) | refine (js_ret (JF.je ?_))
  first | with_reducible refine (jf_lst ?_) | refine (jf_lst ?_)
  with_reducible refine ja_cons ?jh99 ?jt99 (hs := ?js99)
  case js99 => rfl
  case jh99 =>
    exact (je_var (pv 2))
  with_reducible refine ja_cons ?jh100 ja_nil (hs := ?js100)
  case js100 => rfl
  case jh100 =>
    first | with_reducible refine (je_add ?_ (JF.je ?_)) | refine (je_add ?_ (JF.je ?_))
    · exact (je_var (pv 3))
    first | with_reducible refine (jf_lst ?_) | refine (jf_lst ?_)
    with_reducible refine ja_cons ?jh101 ja_nil (hs := ?js101)
    case js101 => rfl
    case jh101 =>
      first | with_reducible refine (je_tup ?_) | refine (je_tup ?_)
      with_reducible refine ja_cons ?jh102 ?jt102 (hs := ?js102)
      case js102 => rfl
      case jh102 =>
        refine (je_xfv T.xv_place ?_)
        exact (je_ixV (pv 2) je_int)
      with_reducible refine ja_cons ?jh103 ja_nil (hs := ?js103)
      case js103 => rfl
      case jh103 =>
        refine (je_xfv T.xv_what ?_)
        exact (je_ixV (pv 2) je_int)
theorem cal__law_classes_of_1 (T : Ft P w K mg cl) : Cal P w K mg base cl 1 "_law_classes_of" [false] fn__law_classes_of [] := by
  obtain ⟨f, fd, F, g⟩ := T.d__law_classes_of
  have b : Binds K fd ["_law_e"] [] := F.bindsN fun _ _ _ _ _ _ us hl => match us, hl with | [_], _ => rfl
  refine ⟨f, fd, ["_law_e"], [], [], ⟨def_okD (N := N__law_classes_of) F sc__law_classes_of rfl (fun cdv A outer s H E hr tk po => ?_), g, F.kp⟩, b, .nil, fun _ => .nil⟩
  refine (jss_cons ?_ ?_)
  · first | with_reducible refine js_set (i := 1) (hN := ?_) (hi := ?_) (hx := ?_) (he := ?_) (hs := ?_) (hf := ?_) | refine js_set (i := 1) (hN := ?_) (hi := ?_) (hx := ?_) (he := ?_) (hs := ?_) (hf := ?_)
    · exact sc__law_classes_of.nd
    · rfl
    · first | exact .inl rfl | exact .inr rfl
    · first | with_reducible refine (JF.je ?_) | refine (JF.je ?_)
      first | with_reducible refine (jf_lst ?_) | refine (jf_lst ?_)
      with_reducible refine ja_cons ?jh104 ?jt104 (hs := ?js104)
      case js104 => rfl
      case jh104 =>
        exact (je_ixv T.iv_BadStands (je_var (pv 0)) rfl T.n_isinstance)
      with_reducible refine ja_cons ?jh105 ?jt105 (hs := ?js105)
      case js105 => rfl
      case jh105 =>
        exact (je_ixv T.iv_BadLot (je_var (pv 0)) rfl T.n_isinstance)
      with_reducible refine ja_cons ?jh106 ?jt106 (hs := ?js106)
      case js106 => rfl
      case jh106 =>
        exact (je_ixv T.iv_NoMember (je_var (pv 0)) rfl T.n_isinstance)
      with_reducible refine ja_cons ?jh107 ja_nil (hs := ?js107)
      case js107 => rfl
      case jh107 =>
        exact (je_ixv T.iv_UnlikeStands (je_var (pv 0)) rfl T.n_isinstance)
    · rfl
    · first | exact .inl rfl | exact .inr rfl
  refine (jss_cons ?_ ?_)
  · first | with_reducible refine js_set (i := 1) (hN := ?_) (hi := ?_) (hx := ?_) (he := ?_) (hs := ?_) (hf := ?_) | refine js_set (i := 1) (hN := ?_) (hi := ?_) (hx := ?_) (he := ?_) (hs := ?_) (hf := ?_)
    · exact sc__law_classes_of.nd
    · rfl
    · first | exact .inl rfl | exact .inr rfl
    · first | with_reducible refine (je_add ?_ (JF.je ?_)) | refine (je_add ?_ (JF.je ?_))
      · exact (je_var (pv 1))
      first | with_reducible refine (jf_lst ?_) | refine (jf_lst ?_)
      with_reducible refine ja_cons ?jh108 ?jt108 (hs := ?js108)
      case js108 => rfl
      case jh108 =>
        exact (je_ixv T.iv_NotAgain (je_var (pv 0)) rfl T.n_isinstance)
      with_reducible refine ja_cons ?jh109 ?jt109 (hs := ?js109)
      case js109 => rfl
      case jh109 =>
        exact (je_ixv T.iv_BadKind (je_var (pv 0)) rfl T.n_isinstance)
      with_reducible refine ja_cons ?jh110 ?jt110 (hs := ?js110)
      case js110 => rfl
      case jh110 =>
        exact (je_ixv T.iv_BadManner (je_var (pv 0)) rfl T.n_isinstance)
      with_reducible refine ja_cons ?jh111 ja_nil (hs := ?js111)
      case js111 => rfl
      case jh111 =>
        exact (je_ixv T.iv_NotAll (je_var (pv 0)) rfl T.n_isinstance)
    · rfl
    · first | exact .inl rfl | exact .inr rfl
  refine (jss_cons ?_ ?_)
  · first | with_reducible refine js_set (i := 1) (hN := ?_) (hi := ?_) (hx := ?_) (he := ?_) (hs := ?_) (hf := ?_) | refine js_set (i := 1) (hN := ?_) (hi := ?_) (hx := ?_) (he := ?_) (hs := ?_) (hf := ?_)
    · exact sc__law_classes_of.nd
    · rfl
    · first | exact .inl rfl | exact .inr rfl
    · first | with_reducible refine (je_add ?_ (JF.je ?_)) | refine (je_add ?_ (JF.je ?_))
      · exact (je_var (pv 1))
      first | with_reducible refine (jf_lst ?_) | refine (jf_lst ?_)
      with_reducible refine ja_cons ?jh112 ?jt112 (hs := ?js112)
      case js112 => rfl
      case jh112 =>
        exact (je_ixv T.iv_NoCounter (je_var (pv 0)) rfl T.n_isinstance)
      with_reducible refine ja_cons ?jh113 ?jt113 (hs := ?js113)
      case js113 => rfl
      case jh113 =>
        exact (je_ixv T.iv_BadMost (je_var (pv 0)) rfl T.n_isinstance)
      with_reducible refine ja_cons ?jh114 ?jt114 (hs := ?js114)
      case js114 => rfl
      case jh114 =>
        exact (je_ixv T.iv_BadSide (je_var (pv 0)) rfl T.n_isinstance)
      with_reducible refine ja_cons ?jh115 ja_nil (hs := ?js115)
      case js115 => rfl
      case jh115 =>
        exact (je_ixv T.iv_NoDeed (je_var (pv 0)) rfl T.n_isinstance)
    · rfl
    · first | exact .inl rfl | exact .inr rfl
  refine (jss_cons ?_ ?_)
  · first | with_reducible refine js_set (i := 1) (hN := ?_) (hi := ?_) (hx := ?_) (he := ?_) (hs := ?_) (hf := ?_) | refine js_set (i := 1) (hN := ?_) (hi := ?_) (hx := ?_) (he := ?_) (hs := ?_) (hf := ?_)
    · exact sc__law_classes_of.nd
    · rfl
    · first | exact .inl rfl | exact .inr rfl
    · first | with_reducible refine (je_add ?_ (JF.je ?_)) | refine (je_add ?_ (JF.je ?_))
      · exact (je_var (pv 1))
      first | with_reducible refine (jf_lst ?_) | refine (jf_lst ?_)
      with_reducible refine ja_cons ?jh116 ?jt116 (hs := ?js116)
      case js116 => rfl
      case jh116 =>
        exact (je_ixv T.iv_TooMany (je_var (pv 0)) rfl T.n_isinstance)
      with_reducible refine ja_cons ?jh117 ?jt117 (hs := ?js117)
      case js117 => rfl
      case jh117 =>
        exact (je_ixv T.iv_BadRow (je_var (pv 0)) rfl T.n_isinstance)
      with_reducible refine ja_cons ?jh118 ?jt118 (hs := ?js118)
      case js118 => rfl
      case jh118 =>
        exact (je_ixv T.iv_NoStep (je_var (pv 0)) rfl T.n_isinstance)
      with_reducible refine ja_cons ?jh119 ja_nil (hs := ?js119)
      case js119 => rfl
      case jh119 =>
        exact (je_ixv T.iv_BadProgram (je_var (pv 0)) rfl T.n_isinstance)
    · rfl
    · first | exact .inl rfl | exact .inr rfl
  refine (jss_cons ?_ ?_)
  · first | with_reducible refine js_set (i := 1) (hN := ?_) (hi := ?_) (hx := ?_) (he := ?_) (hs := ?_) (hf := ?_) | refine js_set (i := 1) (hN := ?_) (hi := ?_) (hx := ?_) (he := ?_) (hs := ?_) (hf := ?_)
    · exact sc__law_classes_of.nd
    · rfl
    · first | exact .inl rfl | exact .inr rfl
    · first | with_reducible refine (je_add ?_ (JF.je ?_)) | refine (je_add ?_ (JF.je ?_))
      · exact (je_var (pv 1))
      first | with_reducible refine (jf_lst ?_) | refine (jf_lst ?_)
      with_reducible refine ja_cons ?jh120 ?jt120 (hs := ?js120)
      case js120 => rfl
      case jh120 =>
        exact (je_ixv T.iv_BadStand (je_var (pv 0)) rfl T.n_isinstance)
      with_reducible refine ja_cons ?jh121 ?jt121 (hs := ?js121)
      case js121 => rfl
      case jh121 =>
        exact (je_ixv T.iv_NoWay (je_var (pv 0)) rfl T.n_isinstance)
      with_reducible refine ja_cons ?jh122 ?jt122 (hs := ?js122)
      case js122 => rfl
      case jh122 =>
        exact (je_ixv T.iv_NotLet (je_var (pv 0)) rfl T.n_isinstance)
      with_reducible refine ja_cons ?jh123 ja_nil (hs := ?js123)
      case js123 => rfl
      case jh123 =>
        exact (je_ixv T.iv_BadRewriting (je_var (pv 0)) rfl T.n_isinstance)
    · rfl
    · first | exact .inl rfl | exact .inr rfl
  refine (jss_cons ?_ ?_)
  · first | with_reducible refine js_set (i := 1) (hN := ?_) (hi := ?_) (hx := ?_) (he := ?_) (hs := ?_) (hf := ?_) | refine js_set (i := 1) (hN := ?_) (hi := ?_) (hx := ?_) (he := ?_) (hs := ?_) (hf := ?_)
    · exact sc__law_classes_of.nd
    · rfl
    · first | exact .inl rfl | exact .inr rfl
    · first | with_reducible refine (je_add ?_ (JF.je ?_)) | refine (je_add ?_ (JF.je ?_))
      · exact (je_var (pv 1))
      first | with_reducible refine (jf_lst ?_) | refine (jf_lst ?_)
      with_reducible refine ja_cons ?jh124 ?jt124 (hs := ?js124)
      case js124 => rfl
      case jh124 =>
        exact (je_ixv T.iv_NoMove (je_var (pv 0)) rfl T.n_isinstance)
      with_reducible refine ja_cons ?jh125 ?jt125 (hs := ?js125)
      case js125 => rfl
      case jh125 =>
        exact (je_ixv T.iv_NotTest (je_var (pv 0)) rfl T.n_isinstance)
      with_reducible refine ja_cons ?jh126 ?jt126 (hs := ?js126)
      case js126 => rfl
      case jh126 =>
        exact (je_ixv T.iv_NotEven (je_var (pv 0)) rfl T.n_isinstance)
      with_reducible refine ja_cons ?jh127 ja_nil (hs := ?js127)
      case js127 => rfl
      case jh127 =>
        exact (je_ixv T.iv_BadPair (je_var (pv 0)) rfl T.n_isinstance)
    · rfl
    · first | exact .inl rfl | exact .inr rfl
  refine (jss_cons ?_ ?_)
  · first | with_reducible refine js_set (i := 1) (hN := ?_) (hi := ?_) (hx := ?_) (he := ?_) (hs := ?_) (hf := ?_) | refine js_set (i := 1) (hN := ?_) (hi := ?_) (hx := ?_) (he := ?_) (hs := ?_) (hf := ?_)
    · exact sc__law_classes_of.nd
    · rfl
    · first | exact .inl rfl | exact .inr rfl
    · first | with_reducible refine (je_add ?_ (JF.je ?_)) | refine (je_add ?_ (JF.je ?_))
      · exact (je_var (pv 1))
      first | with_reducible refine (jf_lst ?_) | refine (jf_lst ?_)
      with_reducible refine ja_cons ?jh128 ?jt128 (hs := ?js128)
      case js128 => rfl
      case jh128 =>
        exact (je_ixv T.iv_BadFact (je_var (pv 0)) rfl T.n_isinstance)
      with_reducible refine ja_cons ?jh129 ?jt129 (hs := ?js129)
      case js129 => rfl
      case jh129 =>
        exact (je_ixv T.iv_Spoilt (je_var (pv 0)) rfl T.n_isinstance)
      with_reducible refine ja_cons ?jh130 ?jt130 (hs := ?js130)
      case js130 => rfl
      case jh130 =>
        exact (je_ixv T.iv_BadDemand (je_var (pv 0)) rfl T.n_isinstance)
      with_reducible refine ja_cons ?jh131 ja_nil (hs := ?js131)
      case js131 => rfl
      case jh131 =>
        exact (je_ixv T.iv_BadGlasses (je_var (pv 0)) rfl T.n_isinstance)
    · rfl
    · first | exact .inl rfl | exact .inr rfl
  refine (jss_cons ?_ ?_)
  · first | with_reducible refine js_set (i := 1) (hN := ?_) (hi := ?_) (hx := ?_) (he := ?_) (hs := ?_) (hf := ?_) | refine js_set (i := 1) (hN := ?_) (hi := ?_) (hx := ?_) (he := ?_) (hs := ?_) (hf := ?_)
    · exact sc__law_classes_of.nd
    · rfl
    · first | exact .inl rfl | exact .inr rfl
    · first | with_reducible refine (je_add ?_ (JF.je ?_)) | refine (je_add ?_ (JF.je ?_))
      · exact (je_var (pv 1))
      first | with_reducible refine (jf_lst ?_) | refine (jf_lst ?_)
      with_reducible refine ja_cons ?jh132 ?jt132 (hs := ?js132)
      case js132 => rfl
      case jh132 =>
        exact (je_ixv T.iv_BadText (je_var (pv 0)) rfl T.n_isinstance)
      with_reducible refine ja_cons ?jh133 ?jt133 (hs := ?js133)
      case js133 => rfl
      case jh133 =>
        exact (je_ixv T.iv_BadSteps (je_var (pv 0)) rfl T.n_isinstance)
      with_reducible refine ja_cons ?jh134 ?jt134 (hs := ?js134)
      case js134 => rfl
      case jh134 =>
        exact (je_ixv T.iv_BadLines (je_var (pv 0)) rfl T.n_isinstance)
      with_reducible refine ja_cons ?jh135 ja_nil (hs := ?js135)
      case js135 => rfl
      case jh135 =>
        exact (je_ixv T.iv_BadMove (je_var (pv 0)) rfl T.n_isinstance)
    · rfl
    · first | exact .inl rfl | exact .inr rfl
  refine (jss_one ?_)
  refine (js_ret ?_)
  first | with_reducible refine (je_add ?_ (JF.je ?_)) | refine (je_add ?_ (JF.je ?_))
  · exact (je_var (pv 1))
  first | with_reducible refine (jf_lst ?_) | refine (jf_lst ?_)
  with_reducible refine ja_cons ?jh136 ?jt136 (hs := ?js136)
  case js136 => rfl
  case jh136 =>
    exact (je_ixv T.iv_BadCells (je_var (pv 0)) rfl T.n_isinstance)
  with_reducible refine ja_cons ?jh137 ?jt137 (hs := ?js137)
  case js137 => rfl
  case jh137 =>
    exact (je_ixv T.iv_NoneFits (je_var (pv 0)) rfl T.n_isinstance)
  with_reducible refine ja_cons ?jh138 ja_nil (hs := ?js138)
  case js138 => rfl
  case jh138 =>
    exact (je_ixv T.iv_BadEdit (je_var (pv 0)) rfl T.n_isinstance)
theorem ok_law (T : Ft P w K mg cl) {f : Addr} {fd : FuncData} (F : FunD K "law" "law" (defArgs s_law) (defBody s_law) (defScope s_law) [] [] f fd) : FnOk P w K mg base (L2.CX P w) 6 f fd ["_law_script"] (SpF K cl [false] fn_law) := by
  refine def_okD (N := N_law) F sc_law rfl (fun cdv A outer s H E hr tk po => ?_)
  refine (jss_cons ?_ ?_)
  · first | with_reducible refine js_setO (i := 1) (hN := ?_) (hi := ?_) (hx := ?_) (he := ?_) (hs := ?_) (hf := ?_) | refine js_setO (i := 1) (hN := ?_) (hi := ?_) (hx := ?_) (he := ?_) (hs := ?_) (hf := ?_)
    · exact sc_law.nd
    · rfl
    · first | exact .inl rfl | exact .inr rfl
    · refine (jf_callC (cal__law_hand_1 T) (hr.mono (by decide)) tk ?_)
      exact (ja_cons (je_var (pv 0)) ja_nil)
    · rfl
    · first | exact .inl rfl | exact .inr rfl
  refine (jss_cons ?_ ?_)
  · first | with_reducible refine js_set (i := 2) (hN := ?_) (hi := ?_) (hx := ?_) (he := ?_) (hs := ?_) (hf := ?_) | refine js_set (i := 2) (hN := ?_) (hi := ?_) (hx := ?_) (he := ?_) (hs := ?_) (hf := ?_)
    · exact sc_law.nd
    · rfl
    · first | exact .inl rfl | exact .inr rfl
    · refine (je_sub ?_ ?_)
      · refine (je_callC (cal__law_take_2 T) (hr.mono (by decide)) tk ?_)
        refine (ja_refA (pv 1) (ja_cons ?_ ja_nil))
        exact (je_pow je_int je_int)
      exact je_int
    · rfl
    · first | exact .inl rfl | exact .inr rfl
  refine (jss_cons ?_ ?_)
  · first | with_reducible refine js_set (i := 3) (hN := ?_) (hi := ?_) (hx := ?_) (he := ?_) (hs := ?_) (hf := ?_) | refine js_set (i := 3) (hN := ?_) (hi := ?_) (hx := ?_) (he := ?_) (hs := ?_) (hf := ?_)
    · exact sc_law.nd
    · rfl
    · first | exact .inl rfl | exact .inr rfl
    · refine (je_add ?_ ?_)
      · refine (je_callC (cal__law_take_2 T) (hr.mono (by decide)) tk ?_)
        refine (ja_refA (pv 1) (ja_cons ?_ ja_nil))
        exact (je_pow je_int je_int)
      exact je_int
    · rfl
    · first | exact .inl rfl | exact .inr rfl
  refine (jss_cons ?_ ?_)
  · first | with_reducible refine js_set (i := 4) (hN := ?_) (hi := ?_) (hx := ?_) (he := ?_) (hs := ?_) (hf := ?_) | refine js_set (i := 4) (hN := ?_) (hi := ?_) (hx := ?_) (he := ?_) (hs := ?_) (hf := ?_)
    · exact sc_law.nd
    · rfl
    · first | exact .inl rfl | exact .inr rfl
    · refine (je_callC (cal__law_singles_1 T) (hr.mono (by decide)) tk ?_)
      exact (ja_cons (je_var (pv 2)) ja_nil)
    · rfl
    · first | exact .inl rfl | exact .inr rfl
  refine (jss_cons ?_ ?_)
  · first | with_reducible refine js_set (i := 5) (hN := ?_) (hi := ?_) (hx := ?_) (he := ?_) (hs := ?_) (hf := ?_) | refine js_set (i := 5) (hN := ?_) (hi := ?_) (hx := ?_) (he := ?_) (hs := ?_) (hf := ?_)
    · exact sc_law.nd
    · rfl
    · first | exact .inl rfl | exact .inr rfl
    · refine (je_callC (cal__law_pairs_2 T) (hr.mono (by decide)) tk ?_)
      with_reducible refine ja_cons ?jh139 ?jt139 (hs := ?js139)
      case js139 => rfl
      case jh139 =>
        exact (je_var (pv 2))
      exact (ja_cons (je_var (pv 3)) ja_nil)
    · rfl
    · first | exact .inl rfl | exact .inr rfl
  refine (jss_cons ?_ ?_)
  · refine (js_if ?_ ?_ ?_)
    · refine (jt_not ?_)
      refine (jt_truth ?_ (fun _ => rfl))
      refine (je_callC (cal__law_exact_2 T 4) (hr.mono (by decide)) tk ?_)
      with_reducible refine ja_cons ?jh140 ?jt140 (hs := ?js140)
      case js140 => rfl
      case jh140 =>
        refine (je_calltuple rfl T.n_tuple ?_)
        with_reducible refine ja_cons ?jh141 ja_nil (hs := ?js141)
        case js141 => rfl
        case jh141 =>
          exact (je_ixV (pv 4) je_int)
      with_reducible refine ja_cons ?jh142 ja_nil (hs := ?js142)
      case js142 => rfl
      case jh142 =>
        refine (je_calltuple rfl T.n_tuple ?_)
        with_reducible refine ja_cons (JF.je ?jh143) ja_nil (hs := ?js143)
        case js143 => rfl
        case jh143 =>
          refine (jf_comp (own := [("_law_e", 9)]) (ts := [9]) rfl sc_law.nd ?_ (blkOk_by (N := N_law) (sc := (defScope s_law)) (by decide +kernel)) (by decide) (fun _ _ _ _ _ => ?_) (fun _ _ _ _ _ => jts_nil) (fun _ _ _ _ _ => ?_))
          · refine (ji_seq ?_)
            exact (je_ixV (pv 4) je_int)
          · exact (jg_name (pg_name (i := 9) sc_law.nd rfl (by first | exact .inl rfl | exact .inr rfl)))
          exact (je_var (pv 2))
    · refine (jss_one ?_)
      exact (js_ret je_bl)
    exact jss_nil
  refine (jss_cons ?_ ?_)
  · refine (js_if ?_ ?_ ?_)
    · refine (jt_not ?_)
      refine (jt_truth ?_ (fun _ => rfl))
      refine (je_callC (cal__law_exact_2 T 4) (hr.mono (by decide)) tk ?_)
      with_reducible refine ja_cons ?jh144 ?jt144 (hs := ?js144)
      case js144 => rfl
      case jh144 =>
        refine (je_calltuple rfl T.n_tuple ?_)
        with_reducible refine ja_cons ?jh145 ja_nil (hs := ?js145)
        case js145 => rfl
        case jh145 =>
          exact (je_ixV (pv 5) je_int)
      with_reducible refine ja_cons ?jh146 ja_nil (hs := ?js146)
      case js146 => rfl
      case jh146 =>
        refine (je_calltuple rfl T.n_tuple ?_)
        with_reducible refine ja_cons (JF.je ?jh147) ja_nil (hs := ?js147)
        case js147 => rfl
        case jh147 =>
          refine (jf_comp (own := [("_law_e", 9)]) (ts := [9]) rfl sc_law.nd ?_ (blkOk_by (N := N_law) (sc := (defScope s_law)) (by decide +kernel)) (by decide) (fun _ _ _ _ _ => ?_) (fun _ _ _ _ _ => jts_nil) (fun _ _ _ _ _ => ?_))
          · refine (ji_seq ?_)
            exact (je_ixV (pv 5) je_int)
          · exact (jg_name (pg_name (i := 9) sc_law.nd rfl (by first | exact .inl rfl | exact .inr rfl)))
          first | with_reducible refine (je_tup ?_) | refine (je_tup ?_)
          with_reducible refine ja_cons ?jh148 ?jt148 (hs := ?js148)
          case js148 => rfl
          case jh148 =>
            exact (je_var (pv 2))
          exact (ja_cons (je_var (pv 3)) ja_nil)
    · refine (jss_one ?_)
      exact (js_ret je_bl)
    exact jss_nil
  refine (jss_cons ?_ ?_)
  · first | with_reducible refine js_set (i := 6) (hN := ?_) (hi := ?_) (hx := ?_) (he := ?_) (hs := ?_) (hf := ?_) | refine js_set (i := 6) (hN := ?_) (hi := ?_) (hx := ?_) (he := ?_) (hs := ?_) (hf := ?_)
    · exact sc_law.nd
    · rfl
    · first | exact .inl rfl | exact .inr rfl
    · refine (je_add ?_ ?_)
      · refine (je_add ?_ ?_)
        · exact (je_callC0 (cal__law_bare_0 T) (hr.mono (by decide)) tk)
        exact (je_ixV (pv 4) je_int)
      exact (je_ixV (pv 5) je_int)
    · rfl
    · first | exact .inl rfl | exact .inr rfl
  refine (jss_cons ?_ ?_)
  · refine (js_for (ts := [7]) po rfl ?_ ?_ ?_)
    · exact (ji_range1 rfl T.n_range (je_lenV rfl T.n_len (pv 6)))
    · exact (jg_name (pg_name (i := 7) sc_law.nd rfl (by first | exact .inl rfl | exact .inr rfl)))
    refine (jss_cons ?_ ?_)
    · refine (js_if ?_ ?_ ?_)
      · refine (JW.jt ?_)
        refine (jw_or ?_ (jw_or1 ?_))
        · refine (jt_not ?_)
          refine (jt_truth ?_ (fun _ => rfl))
          refine (je_ixv T.iv_CheckerError ?_ rfl T.n_isinstance)
          exact (je_ixV (pv 6) (je_var (pv 7)))
        refine (jt_not ?_)
        refine (jt_truth ?_ (fun _ => rfl))
        refine (je_ixt T.iv_ValueError ?_ rfl T.n_isinstance T.n_ValueError rfl)
        exact (je_ixV (pv 6) (je_var (pv 7)))
      · refine (jss_one ?_)
        exact (js_ret je_bl)
      exact jss_nil
    refine (jss_cons ?_ ?_)
    · first | with_reducible refine js_set (i := 8) (hN := ?_) (hi := ?_) (hx := ?_) (he := ?_) (hs := ?_) (hf := ?_) | refine js_set (i := 8) (hN := ?_) (hi := ?_) (hx := ?_) (he := ?_) (hs := ?_) (hf := ?_)
      · exact sc_law.nd
      · rfl
      · first | exact .inl rfl | exact .inr rfl
      · refine (je_callC (cal__law_classes_of_1 T) (hr.mono (by decide)) tk ?_)
        with_reducible refine ja_cons ?jh149 ja_nil (hs := ?js149)
        case js149 => rfl
        case jh149 =>
          exact (je_ixV (pv 6) (je_var (pv 7)))
      · rfl
      · first | exact .inl rfl | exact .inr rfl
    refine (jss_one ?_)
    refine (js_if ?_ ?_ ?_)
    · refine (JW.jt ?_)
      refine (jw_or ?_ (jw_or1 ?_))
      · exact (jt_cm (cr_ne (hu64 hr)) (je_lenV rfl T.n_len (pv 8)) (je_lenV rfl T.n_len (pv 6)))
      first | with_reducible refine (jt_cm (cr_ne (hu64 hr)) (JF.je ?_) (JF.je ?_)) | refine (jt_cm (cr_ne (hu64 hr)) (JF.je ?_) (JF.je ?_))
      · refine (jf_comp (own := [("_law_j", 10)]) (ts := [10]) rfl sc_law.nd ?_ (blkOk_by (N := N_law) (sc := (defScope s_law)) (by decide +kernel)) (by decide) (fun _ _ _ _ _ => ?_) (fun _ _ _ _ _ => (jts_one ?_)) (fun _ _ _ _ _ => ?_))
        · exact (ji_range1 rfl T.n_range (je_lenV rfl T.n_len (pv 8)))
        · exact (jg_name (pg_name (i := 10) sc_law.nd rfl (by first | exact .inl rfl | exact .inr rfl)))
        · refine (jt_cm (cr_ne (hu64 hr)) ?_ ?_)
          · exact (je_ixV (pv 8) (je_var (pv 10)))
          exact (je_cm (cr_eq (hu64 hr)) (je_var (pv 10)) (je_var (pv 7)))
        exact (je_var (pv 10))
      exact (jf_lst ja_nil)
    · refine (jss_one ?_)
      exact (js_ret je_bl)
    exact jss_nil
  refine (jss_one ?_)
  refine (js_ret ?_)
  first | with_reducible refine (je_cm (cr_eq (hu64 hr)) (JF.je ?_) (JF.je ?_)) | refine (je_cm (cr_eq (hu64 hr)) (JF.je ?_) (JF.je ?_))
  · refine (jf_comp (own := [("_law_row", 11)]) (ts := [11]) rfl sc_law.nd ?_ (blkOk_by (N := N_law) (sc := (defScope s_law)) (by decide +kernel)) (by decide) (fun _ _ _ _ _ => ?_) (fun _ _ _ _ _ => (jts_one ?_)) (fun _ _ _ _ _ => ?_))
    · refine (ji_seq ?_)
      refine (je_callC (cal__law_classes_of_1 T) (hr.mono (by decide)) tk ?_)
      exact (ja_cons (je_mk0C T.mx_CheckerError) ja_nil)
    · exact (jg_name (pg_name (i := 11) sc_law.nd rfl (by first | exact .inl rfl | exact .inr rfl)))
    · exact (jt_truV (pv 11) (fun _ => rfl))
    exact (je_var (pv 11))
  exact (jf_lst ja_nil)
end

end LW

set_option maxRecDepth 100000
set_option maxHeartbeats 2000000
namespace LW
open PySem PySem.Spec PyProof.Rows L2 DL
theorem mixed_ev (n t : Int) (hn : 0 ≤ n ∧ n < 2147483648) (ht : 0 ≤ t ∧ t ≤ 63) : ∃ r, fn__law_mixed [.int n, .int t] = .ret (.int r) [] ∧ 0 ≤ r ∧ r < 2147483648 := by
  show ∃ r, toFO [false, false] (F__law_mixed [.val (.int n), .val (.int t), .un, .un]) = .ret (.int r) [] ∧ 0 ≤ r ∧ r < 2147483648
  have c1 : cMul n 48271 = true := mul_ok (by omega) (by decide)
  have c2 : cMul t 7919 = true := mul_ok (by omega) (by decide)
  have c5 : cMul t 92821 = true := mul_ok (by omega) (by decide)
  generalize hA : (n * 48271 + t * 7919 + 30011) % 2147483399 = A
  have hA2 : 0 ≤ A ∧ A < 2147483399 := by omega
  have c3 : cMul A A = true := mul_ok (by omega) (by omega)
  generalize hB : (A * A + t * 92821 + A / 131) % 2147483629 = B
  have hB2 : 0 ≤ B ∧ B < 2147483629 := by
    rw [← hB]
    exact ⟨Int.emod_nonneg _ (by decide), Int.emod_lt_of_pos _ (by decide)⟩
  have c4 : cMul B 69621 = true := mul_ok (by omega) (by decide)
  have p1 : ∀ i, cPos i 2147483399 = true := fun i => rfl
  have p2 : ∀ i, cPos i 2147483629 = true := fun i => rfl
  have p3 : ∀ i, cPos i 2147483587 = true := fun i => rfl
  have d1 : ∀ i, cDiv i 131 = true := fun i => div_ok (by decide) (by decide)
  have d2 : ∀ i, cDiv i 13 = true := fun i => div_ok (by decide) (by decide)
  have d3 : ∀ i, cDiv i 32 = true := fun i => div_ok (by decide) (by decide)
  simp -implicitDefEqProofs only [F__law_mixed, a_seq, a_expr, a_ret, a_retO, a_set, a_setO, a_if, a_unp, a_for, a_nil, a_retN, a_then_0, a_then_1, a_then_2, a_then_3, a_sK_0, a_sK_1, a_ifS_0, a_ifS_1, a_ifS_2, a_k_0, a_k_1, a_k_2, a_k_3, a_k_4, a_k_5, a_k_6, a_setV, a_setOd, a_setVK_0, a_setVK_1, a_setVK_2, a_setVK_3, a_setVK_4, a_setVK_5, a_c, a_var, a_varK_0, a_varK_1, a_bin, a_binK_0, a_binK_1, a_binK_2, a_binK_3, a_oE_0, a_oE_1, a_un, a_unK_0, a_unK_1, a_unK_2, a_unK_3, a_test, a_tru, a_not, a_asB_0, a_asB_1, a_asB_2, a_asB_3, a_lst_0, a_lst_1, a_and, a_or, a_andK_0, a_andK_1, a_andK_2, a_andK_3, a_andK_4, a_andK_5, a_dIf, a_tand, a_tor, a_tnot, a_ifK_0, a_ifK_1, a_ifK_2, a_ifK_3, a_ifK_4, a_cons, a_consK_0, a_consK_1, a_consK_2, a_consK_3, a_consK_4, a_refA, a_refK_0, a_refK_1, a_refK_2, a_cb, a_tup, a_dLst, a_vals0, a_vals1, a_vals2, a_vals3, a_vals4, call_eq, callO_eq, a_call1, a_call2, a_call3, a_call4, a_rf0, a_rf1, a_rf2, a_rfK_0, a_rfK_1, a_rfK_2, a_end0_0, a_end0_1, a_end0_2, a_end0_3, a_end1, a_put1_0, a_put1_1, a_look, a_lkK_0, a_lkK_1, a_lkK_2, a_ixV, a_ixK_0, a_ixK_1, a_ixK_2, a_lenV, a_truV, a_len_0, a_len_1, a_len_2, a_len_3, a_len_4, a_it, a_rg1, a_rgL, a_en, a_zp, a_itK_0, a_itK_1, a_itK_2, a_itE_0, a_itE_1, a_comp, a_compK_0, a_compK_1, a_isi, a_isO, a_gI_0, a_gI_1, a_gI_2, List.getElem?_cons_zero, List.getElem?_cons_succ, List.set_cons_zero, List.set_cons_succ, Option.bind_some, Option.map_some, f_nil, f_cons, f_some, f_nx, f_ct, f_bk, f_rt, f_ex, a_putV, a_pv0, a_pv1, a_put, a_sp0, a_sp1, a_sp2, a_sp3, a_sp4, a_app, a_sa1, a_sa2, a_aug, a_au1, a_au2, a_au3, gEq_int, gNe_int, ct_rf, ct_own, if_true, if_false, Bool.false_eq_true, a_try, a_tryK_0, a_tryK_1, a_tryK_2, a_tryH_0, a_tryH_1, a_tryK2_0, a_tryK2_1, a_hdS_0, a_hdS_1, a_compX, a_compKX_0, a_fld, a_meth, a_prop, a_propK, a_propE, a_make, a_makeK, a_makeE, a_putF, a_pfK, a_lkv, a_lkvK, a_dct1, a_dct1K, a_dct1K2, a_dct2, a_key, a_putK, a_pk0, a_pk1, a_pk2, a_rg2, a_rg2K, a_rg2K2, a_oL, a_raiseF, a_xr1, a_xr2, a_rgDn, a_xf, a_sortK, a_listK, a_lsK, a_tix, a_tixK, a_isX, a_isXv, a_isxvK, a_isxK, a_binV, a_get2, a_g2K, a_ixk, a_ixkK, a_ixkE, int1, c1, c2, c3, c4, c5, p1, p2, p3, d1, d2, d3, hA, hB]
  refine ⟨_, rfl, ?_, ?_⟩ <;> omega
def hd (cs : List Int) (p r t : Int) : D := .lst [.lst (cs.map .int), .int p, .int r, .int t]
structure HandI (cs : List Int) (p r t : Int) : Prop where
  pos : ∀ c ∈ cs, 0 ≤ c
  p0 : 0 ≤ p
  p1 : p ≤ cs.length
  r0 : 0 ≤ r
  t0 : 0 ≤ t
  t1 : t < 2147483549
  l : cs.length ≤ 63
def Hand (d : D) : Prop := ∃ cs p r t, d = hd cs p r t ∧ HandI cs p r t
theorem hand_turn (ns k : List Int) (tot v : Int) (s3 : Sl) (h3 : s3 = .un ∨ ∃ d, s3 = .val d) (h0 : 0 ≤ tot) (h1 : tot < 2147483549) (hl : k.length ≤ 63) :
    ∃ δ1, setV 3 (.int v) [.val (.scr ns), .val (.int tot), .own (.lst (k.map D.int)), s3] = some δ1 ∧
      B__law_hand_0 δ1 = .nx [.val (.scr ns), .val (.int ((tot * 1721 + v) % 2147483549)), .own (.lst ((k ++ [if v < 0 then -v else v]).map D.int)), .val (.int v)] := by
  have c1 : cMul tot 1721 = true := mul_ok (by omega) (by decide)
  have p1 : ∀ i, cPos i 2147483549 = true := fun i => rfl
  have l1 : (k.map D.int).length < sizeLine := by rw [List.length_map]; exact app_lt hl
  have l2 : ∀ v δ, saK3 2 v δ (some (.lst (k.map D.int))) = oNx (putV 2 (.lst ((k.map D.int) ++ [v])) δ) := fun v δ => a_sa3 _ _ _ _ l1
  refine ⟨[.val (.scr ns), .val (.int tot), .own (.lst (k.map D.int)), .val (.int v)], ?_, ?_⟩
  · rcases h3 with rfl | ⟨d, rfl⟩ <;> rfl
  · simp -implicitDefEqProofs only [B__law_hand_0, a_seq, a_expr, a_ret, a_retO, a_set, a_setO, a_if, a_unp, a_for, a_nil, a_retN, a_then_0, a_then_1, a_then_2, a_then_3, a_sK_0, a_sK_1, a_ifS_0, a_ifS_1, a_ifS_2, a_k_0, a_k_1, a_k_2, a_k_3, a_k_4, a_k_5, a_k_6, a_setV, a_setOd, a_setVK_0, a_setVK_1, a_setVK_2, a_setVK_3, a_setVK_4, a_setVK_5, a_c, a_var, a_varK_0, a_varK_1, a_bin, a_binK_0, a_binK_1, a_binK_2, a_binK_3, a_oE_0, a_oE_1, a_un, a_unK_0, a_unK_1, a_unK_2, a_unK_3, a_test, a_tru, a_not, a_asB_0, a_asB_1, a_asB_2, a_asB_3, a_lst_0, a_lst_1, a_and, a_or, a_andK_0, a_andK_1, a_andK_2, a_andK_3, a_andK_4, a_andK_5, a_dIf, a_tand, a_tor, a_tnot, a_ifK_0, a_ifK_1, a_ifK_2, a_ifK_3, a_ifK_4, a_cons, a_consK_0, a_consK_1, a_consK_2, a_consK_3, a_consK_4, a_refA, a_refK_0, a_refK_1, a_refK_2, a_cb, a_tup, a_dLst, a_vals0, a_vals1, a_vals2, a_vals3, a_vals4, call_eq, callO_eq, a_call1, a_call2, a_call3, a_call4, a_rf0, a_rf1, a_rf2, a_rfK_0, a_rfK_1, a_rfK_2, a_end0_0, a_end0_1, a_end0_2, a_end0_3, a_end1, a_put1_0, a_put1_1, a_look, a_lkK_0, a_lkK_1, a_lkK_2, a_ixV, a_ixK_0, a_ixK_1, a_ixK_2, a_lenV, a_truV, a_len_0, a_len_1, a_len_2, a_len_3, a_len_4, a_it, a_rg1, a_rgL, a_en, a_zp, a_itK_0, a_itK_1, a_itK_2, a_itE_0, a_itE_1, a_comp, a_compK_0, a_compK_1, a_isi, a_isO, a_gI_0, a_gI_1, a_gI_2, List.getElem?_cons_zero, List.getElem?_cons_succ, List.set_cons_zero, List.set_cons_succ, Option.bind_some, Option.map_some, f_nil, f_cons, f_some, f_nx, f_ct, f_bk, f_rt, f_ex, a_putV, a_pv0, a_pv1, a_put, a_sp0, a_sp1, a_sp2, a_sp3, a_sp4, a_app, a_sa1, a_sa2, a_aug, a_au1, a_au2, a_au3, gEq_int, gNe_int, ct_rf, ct_own, if_true, if_false, Bool.false_eq_true, a_try, a_tryK_0, a_tryK_1, a_tryK_2, a_tryH_0, a_tryH_1, a_tryK2_0, a_tryK2_1, a_hdS_0, a_hdS_1, a_compX, a_compKX_0, a_fld, a_meth, a_prop, a_propK, a_propE, a_make, a_makeK, a_makeE, a_putF, a_pfK, a_lkv, a_lkvK, a_dct1, a_dct1K, a_dct1K2, a_dct2, a_key, a_putK, a_pk0, a_pk1, a_pk2, a_rg2, a_rg2K, a_rg2K2, a_oL, a_raiseF, a_xr1, a_xr2, a_rgDn, a_xf, a_sortK, a_listK, a_lsK, a_tix, a_tixK, a_isX, a_isXv, a_isxvK, a_isxK, a_binV, a_get2, a_g2K, a_ixk, a_ixkK, a_ixkE, int1, abs1, c1, p1, l2, List.map_append, List.map_cons, List.map_nil]
def HandL (ns : List Int) (pre : List D) (δ : DEnv) : Prop := ∃ (k : List Int) (tot : Int) (s3 : Sl), pre = k.map D.int ∧ 0 ≤ tot ∧ tot < 2147483549 ∧ (s3 = .un ∨ ∃ d, s3 = .val d) ∧ δ = [.val (.scr ns), .val (.int tot), .own (.lst ((k.map fun i => if i < 0 then -i else i).map D.int)), s3]
theorem hand_step (ns : List Int) (h : ns.length ≤ 63) (pre : List D) (d : D) (r : List D) (δ : DEnv) (eall : ns.map D.int = pre ++ d :: r) (hI : HandL ns pre δ) : ∃ δ1 δ2, setV 3 d δ = some δ1 ∧ B__law_hand_0 δ1 = .nx δ2 ∧ HandL ns (pre ++ [d]) δ2 := by
  obtain ⟨k, tot, s3, rfl, h0, h1, h3, rfl⟩ := hI
  have hlen : k.length ≤ 63 := by
    have := congrArg List.length eall
    simp only [List.length_map, List.length_append, List.length_cons] at this
    omega
  have hd : d ∈ ns.map D.int := by rw [eall]; simp
  obtain ⟨v, _, rfl⟩ := List.mem_map.mp hd
  obtain ⟨δ1, e1, e2⟩ := hand_turn ns (k.map fun i => if i < 0 then -i else i) tot v s3 h3 h0 h1 (by simpa using hlen)
  refine ⟨δ1, _, e1, e2, k ++ [v], (tot * 1721 + v) % 2147483549, .val (.int v), by simp, Int.emod_nonneg _ (by decide), Int.emod_lt_of_pos _ (by decide), .inr ⟨_, rfl⟩, ?_⟩
  simp
theorem hand_ev (ns : List Int) (h : ns.length ≤ 63) : ∃ d, fn__law_hand [.scr ns] = .new d [] ∧ Hand d := by
  show ∃ d, toFO [false] (F__law_hand [.val (.scr ns), .un, .un, .un]) = .new d [] ∧ Hand d
  have key := for_pos (A := setV 3) (f := B__law_hand_0) (HandL ns) (ns.map D.int) (ns.map D.int) [] [.val (.scr ns), .val (.int ((ns.length : Int) + 41)), .own (.lst []), .un] rfl ⟨[], _, _, rfl, by omega, by omega, .inl rfl, rfl⟩ (hand_step ns h)
  obtain ⟨δ', e, k, tot, s3, ek, h0, h1, h3, rfl⟩ := key
  have ek' := ints_inj ek
  subst ek'
  have q0 : gLen [.scr k] = some (.int (k.length : Nat)) := rfl
  simp -implicitDefEqProofs only [F__law_hand, a_seq, a_expr, a_ret, a_retO, a_set, a_setO, a_if, a_unp, a_for, a_nil, a_retN, a_then_0, a_then_1, a_then_2, a_then_3, a_sK_0, a_sK_1, a_ifS_0, a_ifS_1, a_ifS_2, a_k_0, a_k_1, a_k_2, a_k_3, a_k_4, a_k_5, a_k_6, a_setV, a_setOd, a_setVK_0, a_setVK_1, a_setVK_2, a_setVK_3, a_setVK_4, a_setVK_5, a_c, a_var, a_varK_0, a_varK_1, a_bin, a_binK_0, a_binK_1, a_binK_2, a_binK_3, a_oE_0, a_oE_1, a_un, a_unK_0, a_unK_1, a_unK_2, a_unK_3, a_test, a_tru, a_not, a_asB_0, a_asB_1, a_asB_2, a_asB_3, a_lst_0, a_lst_1, a_and, a_or, a_andK_0, a_andK_1, a_andK_2, a_andK_3, a_andK_4, a_andK_5, a_dIf, a_tand, a_tor, a_tnot, a_ifK_0, a_ifK_1, a_ifK_2, a_ifK_3, a_ifK_4, a_cons, a_consK_0, a_consK_1, a_consK_2, a_consK_3, a_consK_4, a_refA, a_refK_0, a_refK_1, a_refK_2, a_cb, a_tup, a_dLst, a_vals0, a_vals1, a_vals2, a_vals3, a_vals4, call_eq, callO_eq, a_call1, a_call2, a_call3, a_call4, a_rf0, a_rf1, a_rf2, a_rfK_0, a_rfK_1, a_rfK_2, a_end0_0, a_end0_1, a_end0_2, a_end0_3, a_end1, a_put1_0, a_put1_1, a_look, a_lkK_0, a_lkK_1, a_lkK_2, a_ixV, a_ixK_0, a_ixK_1, a_ixK_2, a_lenV, a_truV, a_len_0, a_len_1, a_len_2, a_len_3, a_len_4, a_it, a_rg1, a_rgL, a_en, a_zp, a_itK_0, a_itK_1, a_itK_2, a_itE_0, a_itE_1, a_comp, a_compK_0, a_compK_1, a_isi, a_isO, a_gI_0, a_gI_1, a_gI_2, List.getElem?_cons_zero, List.getElem?_cons_succ, List.set_cons_zero, List.set_cons_succ, Option.bind_some, Option.map_some, f_nil, f_cons, f_some, f_nx, f_ct, f_bk, f_rt, f_ex, a_putV, a_pv0, a_pv1, a_put, a_sp0, a_sp1, a_sp2, a_sp3, a_sp4, a_app, a_sa1, a_sa2, a_aug, a_au1, a_au2, a_au3, gEq_int, gNe_int, ct_rf, ct_own, if_true, if_false, Bool.false_eq_true, a_try, a_tryK_0, a_tryK_1, a_tryK_2, a_tryH_0, a_tryH_1, a_tryK2_0, a_tryK2_1, a_hdS_0, a_hdS_1, a_compX, a_compKX_0, a_fld, a_meth, a_prop, a_propK, a_propE, a_make, a_makeK, a_makeE, a_putF, a_pfK, a_lkv, a_lkvK, a_dct1, a_dct1K, a_dct1K2, a_dct2, a_key, a_putK, a_pk0, a_pk1, a_pk2, a_rg2, a_rg2K, a_rg2K2, a_oL, a_raiseF, a_xr1, a_xr2, a_rgDn, a_xf, a_sortK, a_listK, a_lsK, a_tix, a_tixK, a_isX, a_isXv, a_isxvK, a_isxK, a_binV, a_get2, a_g2K, a_ixk, a_ixkK, a_ixkE, q0, gLst0, e, gLst4]
  refine ⟨_, rfl, _, 0, 0, tot, rfl, ?_, Int.le_refl _, by omega, Int.le_refl _, h0, h1, by simpa using h⟩
  intro c hc
  obtain ⟨i, _, rfl⟩ := List.mem_map.mp hc
  split <;> omega
theorem take_ev (d : D) (m : Int) (h : Hand d) (hm : 0 < m) (hm2 : m < 4611686018427387904) : ∃ r d', fn__law_take [d, .int m] = .ret (.int r) [d'] ∧ Hand d' ∧ 0 ≤ r ∧ r < m := by
  obtain ⟨cs, p, r, t, rfl, H⟩ := h
  show ∃ r' d', toFO [true, false] (F__law_take [.rf (hd cs p r t), .val (.int m), .un, .un]) = .ret (.int r') [d'] ∧ Hand d' ∧ 0 ≤ r' ∧ r' < m
  have pm : ∀ i, cPos i m = true := fun i => pos_ok hm
  have dm : ∀ i, cDiv i m = true := fun i => div_ok hm (by omega)
  have p1 : ∀ i, cPos i 2147483399 = true := fun i => rfl
  have p2 : ∀ i, cPos i 2147483549 = true := fun i => rfl
  have lt_m : ∀ i : Int, 0 ≤ i % m ∧ i % m < m := fun i => ⟨Int.emod_nonneg _ (by omega), Int.emod_lt_of_pos _ hm⟩
  have hl := H.l
  have h0 := H.p0
  have h1 := H.p1
  by_cases hA : r = 0 ∧ p < cs.length
  · obtain ⟨rfl, hp⟩ := hA
    obtain ⟨c, ec, hc⟩ := at_int cs p h0 hp
    have c0 := H.pos c hc
    have e1 : ((0 : Int) == 0) = true := rfl
    have e2 : decide (p < (((cs.map D.int).length : Nat) : Int)) = true := decide_eq_true (by rw [List.length_map]; exact hp)
    by_cases hb : c < 1000000000000000000
    · have e4 : decide (c < 1000000000000000000) = true := decide_eq_true hb
      obtain ⟨q, eq, q0, q1⟩ := mixed_ev (c % 2147483399) (p + 1) ⟨by omega, by omega⟩ ⟨by omega, by omega⟩
      simp -implicitDefEqProofs only [F__law_take, a_seq, a_expr, a_ret, a_retO, a_set, a_setO, a_if, a_unp, a_for, a_nil, a_retN, a_then_0, a_then_1, a_then_2, a_then_3, a_sK_0, a_sK_1, a_ifS_0, a_ifS_1, a_ifS_2, a_k_0, a_k_1, a_k_2, a_k_3, a_k_4, a_k_5, a_k_6, a_setV, a_setOd, a_setVK_0, a_setVK_1, a_setVK_2, a_setVK_3, a_setVK_4, a_setVK_5, a_c, a_var, a_varK_0, a_varK_1, a_bin, a_binK_0, a_binK_1, a_binK_2, a_binK_3, a_oE_0, a_oE_1, a_un, a_unK_0, a_unK_1, a_unK_2, a_unK_3, a_test, a_tru, a_not, a_asB_0, a_asB_1, a_asB_2, a_asB_3, a_lst_0, a_lst_1, a_and, a_or, a_andK_0, a_andK_1, a_andK_2, a_andK_3, a_andK_4, a_andK_5, a_dIf, a_tand, a_tor, a_tnot, a_ifK_0, a_ifK_1, a_ifK_2, a_ifK_3, a_ifK_4, a_cons, a_consK_0, a_consK_1, a_consK_2, a_consK_3, a_consK_4, a_refA, a_refK_0, a_refK_1, a_refK_2, a_cb, a_tup, a_dLst, a_vals0, a_vals1, a_vals2, a_vals3, a_vals4, call_eq, callO_eq, a_call1, a_call2, a_call3, a_call4, a_rf0, a_rf1, a_rf2, a_rfK_0, a_rfK_1, a_rfK_2, a_end0_0, a_end0_1, a_end0_2, a_end0_3, a_end1, a_put1_0, a_put1_1, a_look, a_lkK_0, a_lkK_1, a_lkK_2, a_ixV, a_ixK_0, a_ixK_1, a_ixK_2, a_lenV, a_truV, a_len_0, a_len_1, a_len_2, a_len_3, a_len_4, a_it, a_rg1, a_rgL, a_en, a_zp, a_itK_0, a_itK_1, a_itK_2, a_itE_0, a_itE_1, a_comp, a_compK_0, a_compK_1, a_isi, a_isO, a_gI_0, a_gI_1, a_gI_2, List.getElem?_cons_zero, List.getElem?_cons_succ, List.set_cons_zero, List.set_cons_succ, Option.bind_some, Option.map_some, f_nil, f_cons, f_some, f_nx, f_ct, f_bk, f_rt, f_ex, a_putV, a_pv0, a_pv1, a_put, a_sp0, a_sp1, a_sp2, a_sp3, a_sp4, a_app, a_sa1, a_sa2, a_aug, a_au1, a_au2, a_au3, gEq_int, gNe_int, ct_rf, ct_own, if_true, if_false, Bool.false_eq_true, a_try, a_tryK_0, a_tryK_1, a_tryK_2, a_tryH_0, a_tryH_1, a_tryK2_0, a_tryK2_1, a_hdS_0, a_hdS_1, a_compX, a_compKX_0, a_fld, a_meth, a_prop, a_propK, a_propE, a_make, a_makeK, a_makeE, a_putF, a_pfK, a_lkv, a_lkvK, a_dct1, a_dct1K, a_dct1K2, a_dct2, a_key, a_putK, a_pk0, a_pk1, a_pk2, a_rg2, a_rg2K, a_rg2K2, a_oL, a_raiseF, a_xr1, a_xr2, a_rgDn, a_xf, a_sortK, a_listK, a_lsK, a_tix, a_tixK, a_isX, a_isXv, a_isxvK, a_isxK, a_binV, a_get2, a_g2K, a_ixk, a_ixkK, a_ixkE, hd, ix0, ix1, ix2, ix3', n4, x1, x2, x3, len_l, int1, big, bigv, ec, e1, e2, e4, eq, pm, p1]
      exact ⟨_, _, rfl, ⟨cs, p + 1, 0, t, rfl, ⟨H.pos, by omega, by omega, by omega, H.t0, H.t1, hl⟩⟩, lt_m q⟩
    · have e4 : decide (c < 1000000000000000000) = false := decide_eq_false hb
      have e5 : decide (0 < c) = true := decide_eq_true (by omega)
      simp -implicitDefEqProofs only [F__law_take, a_seq, a_expr, a_ret, a_retO, a_set, a_setO, a_if, a_unp, a_for, a_nil, a_retN, a_then_0, a_then_1, a_then_2, a_then_3, a_sK_0, a_sK_1, a_ifS_0, a_ifS_1, a_ifS_2, a_k_0, a_k_1, a_k_2, a_k_3, a_k_4, a_k_5, a_k_6, a_setV, a_setOd, a_setVK_0, a_setVK_1, a_setVK_2, a_setVK_3, a_setVK_4, a_setVK_5, a_c, a_var, a_varK_0, a_varK_1, a_bin, a_binK_0, a_binK_1, a_binK_2, a_binK_3, a_oE_0, a_oE_1, a_un, a_unK_0, a_unK_1, a_unK_2, a_unK_3, a_test, a_tru, a_not, a_asB_0, a_asB_1, a_asB_2, a_asB_3, a_lst_0, a_lst_1, a_and, a_or, a_andK_0, a_andK_1, a_andK_2, a_andK_3, a_andK_4, a_andK_5, a_dIf, a_tand, a_tor, a_tnot, a_ifK_0, a_ifK_1, a_ifK_2, a_ifK_3, a_ifK_4, a_cons, a_consK_0, a_consK_1, a_consK_2, a_consK_3, a_consK_4, a_refA, a_refK_0, a_refK_1, a_refK_2, a_cb, a_tup, a_dLst, a_vals0, a_vals1, a_vals2, a_vals3, a_vals4, call_eq, callO_eq, a_call1, a_call2, a_call3, a_call4, a_rf0, a_rf1, a_rf2, a_rfK_0, a_rfK_1, a_rfK_2, a_end0_0, a_end0_1, a_end0_2, a_end0_3, a_end1, a_put1_0, a_put1_1, a_look, a_lkK_0, a_lkK_1, a_lkK_2, a_ixV, a_ixK_0, a_ixK_1, a_ixK_2, a_lenV, a_truV, a_len_0, a_len_1, a_len_2, a_len_3, a_len_4, a_it, a_rg1, a_rgL, a_en, a_zp, a_itK_0, a_itK_1, a_itK_2, a_itE_0, a_itE_1, a_comp, a_compK_0, a_compK_1, a_isi, a_isO, a_gI_0, a_gI_1, a_gI_2, List.getElem?_cons_zero, List.getElem?_cons_succ, List.set_cons_zero, List.set_cons_succ, Option.bind_some, Option.map_some, f_nil, f_cons, f_some, f_nx, f_ct, f_bk, f_rt, f_ex, a_putV, a_pv0, a_pv1, a_put, a_sp0, a_sp1, a_sp2, a_sp3, a_sp4, a_app, a_sa1, a_sa2, a_aug, a_au1, a_au2, a_au3, gEq_int, gNe_int, ct_rf, ct_own, if_true, if_false, Bool.false_eq_true, a_try, a_tryK_0, a_tryK_1, a_tryK_2, a_tryH_0, a_tryH_1, a_tryK2_0, a_tryK2_1, a_hdS_0, a_hdS_1, a_compX, a_compKX_0, a_fld, a_meth, a_prop, a_propK, a_propE, a_make, a_makeK, a_makeE, a_putF, a_pfK, a_lkv, a_lkvK, a_dct1, a_dct1K, a_dct1K2, a_dct2, a_key, a_putK, a_pk0, a_pk1, a_pk2, a_rg2, a_rg2K, a_rg2K2, a_oL, a_raiseF, a_xr1, a_xr2, a_rgDn, a_xf, a_sortK, a_listK, a_lsK, a_tix, a_tixK, a_isX, a_isXv, a_isxvK, a_isxK, a_binV, a_get2, a_g2K, a_ixk, a_ixkK, a_ixkE, hd, ix0, ix1, ix2, ix3', n4, x1, x2, x3, len_l, int1, big, bigv, ec, e1, e2, e4, e5, pm, dm]
      exact ⟨_, _, rfl, ⟨cs, p + 1, c / m, t, rfl, ⟨H.pos, by omega, by omega, Int.ediv_nonneg c0 (by omega), H.t0, H.t1, hl⟩⟩, lt_m c⟩
  · have hskip : ((r == 0) = false) ∨ ((r == 0) = true ∧ decide (p < (((cs.map D.int).length : Nat) : Int)) = false) := by
      by_cases hr : r = 0
      · exact .inr ⟨by rw [hr]; rfl, decide_eq_false (by rw [List.length_map]; exact fun z => hA ⟨hr, z⟩)⟩
      · exact .inl (by simpa using hr)
    have r0 := H.r0
    by_cases hr : 0 < r
    · have e5 : decide (0 < r) = true := decide_eq_true hr
      rcases hskip with e1 | ⟨e1, e2⟩
      · simp -implicitDefEqProofs only [F__law_take, a_seq, a_expr, a_ret, a_retO, a_set, a_setO, a_if, a_unp, a_for, a_nil, a_retN, a_then_0, a_then_1, a_then_2, a_then_3, a_sK_0, a_sK_1, a_ifS_0, a_ifS_1, a_ifS_2, a_k_0, a_k_1, a_k_2, a_k_3, a_k_4, a_k_5, a_k_6, a_setV, a_setOd, a_setVK_0, a_setVK_1, a_setVK_2, a_setVK_3, a_setVK_4, a_setVK_5, a_c, a_var, a_varK_0, a_varK_1, a_bin, a_binK_0, a_binK_1, a_binK_2, a_binK_3, a_oE_0, a_oE_1, a_un, a_unK_0, a_unK_1, a_unK_2, a_unK_3, a_test, a_tru, a_not, a_asB_0, a_asB_1, a_asB_2, a_asB_3, a_lst_0, a_lst_1, a_and, a_or, a_andK_0, a_andK_1, a_andK_2, a_andK_3, a_andK_4, a_andK_5, a_dIf, a_tand, a_tor, a_tnot, a_ifK_0, a_ifK_1, a_ifK_2, a_ifK_3, a_ifK_4, a_cons, a_consK_0, a_consK_1, a_consK_2, a_consK_3, a_consK_4, a_refA, a_refK_0, a_refK_1, a_refK_2, a_cb, a_tup, a_dLst, a_vals0, a_vals1, a_vals2, a_vals3, a_vals4, call_eq, callO_eq, a_call1, a_call2, a_call3, a_call4, a_rf0, a_rf1, a_rf2, a_rfK_0, a_rfK_1, a_rfK_2, a_end0_0, a_end0_1, a_end0_2, a_end0_3, a_end1, a_put1_0, a_put1_1, a_look, a_lkK_0, a_lkK_1, a_lkK_2, a_ixV, a_ixK_0, a_ixK_1, a_ixK_2, a_lenV, a_truV, a_len_0, a_len_1, a_len_2, a_len_3, a_len_4, a_it, a_rg1, a_rgL, a_en, a_zp, a_itK_0, a_itK_1, a_itK_2, a_itE_0, a_itE_1, a_comp, a_compK_0, a_compK_1, a_isi, a_isO, a_gI_0, a_gI_1, a_gI_2, List.getElem?_cons_zero, List.getElem?_cons_succ, List.set_cons_zero, List.set_cons_succ, Option.bind_some, Option.map_some, f_nil, f_cons, f_some, f_nx, f_ct, f_bk, f_rt, f_ex, a_putV, a_pv0, a_pv1, a_put, a_sp0, a_sp1, a_sp2, a_sp3, a_sp4, a_app, a_sa1, a_sa2, a_aug, a_au1, a_au2, a_au3, gEq_int, gNe_int, ct_rf, ct_own, if_true, if_false, Bool.false_eq_true, a_try, a_tryK_0, a_tryK_1, a_tryK_2, a_tryH_0, a_tryH_1, a_tryK2_0, a_tryK2_1, a_hdS_0, a_hdS_1, a_compX, a_compKX_0, a_fld, a_meth, a_prop, a_propK, a_propE, a_make, a_makeK, a_makeE, a_putF, a_pfK, a_lkv, a_lkvK, a_dct1, a_dct1K, a_dct1K2, a_dct2, a_key, a_putK, a_pk0, a_pk1, a_pk2, a_rg2, a_rg2K, a_rg2K2, a_oL, a_raiseF, a_xr1, a_xr2, a_rgDn, a_xf, a_sortK, a_listK, a_lsK, a_tix, a_tixK, a_isX, a_isXv, a_isxvK, a_isxK, a_binV, a_get2, a_g2K, a_ixk, a_ixkK, a_ixkE, hd, ix0, ix1, ix2, ix3', n4, x1, x2, x3, len_l, int1, big, bigv, e1, e5, pm, dm]
        exact ⟨_, _, rfl, ⟨cs, p, r / m, t, rfl, ⟨H.pos, h0, h1, Int.ediv_nonneg r0 (by omega), H.t0, H.t1, hl⟩⟩, lt_m r⟩
      · simp -implicitDefEqProofs only [F__law_take, a_seq, a_expr, a_ret, a_retO, a_set, a_setO, a_if, a_unp, a_for, a_nil, a_retN, a_then_0, a_then_1, a_then_2, a_then_3, a_sK_0, a_sK_1, a_ifS_0, a_ifS_1, a_ifS_2, a_k_0, a_k_1, a_k_2, a_k_3, a_k_4, a_k_5, a_k_6, a_setV, a_setOd, a_setVK_0, a_setVK_1, a_setVK_2, a_setVK_3, a_setVK_4, a_setVK_5, a_c, a_var, a_varK_0, a_varK_1, a_bin, a_binK_0, a_binK_1, a_binK_2, a_binK_3, a_oE_0, a_oE_1, a_un, a_unK_0, a_unK_1, a_unK_2, a_unK_3, a_test, a_tru, a_not, a_asB_0, a_asB_1, a_asB_2, a_asB_3, a_lst_0, a_lst_1, a_and, a_or, a_andK_0, a_andK_1, a_andK_2, a_andK_3, a_andK_4, a_andK_5, a_dIf, a_tand, a_tor, a_tnot, a_ifK_0, a_ifK_1, a_ifK_2, a_ifK_3, a_ifK_4, a_cons, a_consK_0, a_consK_1, a_consK_2, a_consK_3, a_consK_4, a_refA, a_refK_0, a_refK_1, a_refK_2, a_cb, a_tup, a_dLst, a_vals0, a_vals1, a_vals2, a_vals3, a_vals4, call_eq, callO_eq, a_call1, a_call2, a_call3, a_call4, a_rf0, a_rf1, a_rf2, a_rfK_0, a_rfK_1, a_rfK_2, a_end0_0, a_end0_1, a_end0_2, a_end0_3, a_end1, a_put1_0, a_put1_1, a_look, a_lkK_0, a_lkK_1, a_lkK_2, a_ixV, a_ixK_0, a_ixK_1, a_ixK_2, a_lenV, a_truV, a_len_0, a_len_1, a_len_2, a_len_3, a_len_4, a_it, a_rg1, a_rgL, a_en, a_zp, a_itK_0, a_itK_1, a_itK_2, a_itE_0, a_itE_1, a_comp, a_compK_0, a_compK_1, a_isi, a_isO, a_gI_0, a_gI_1, a_gI_2, List.getElem?_cons_zero, List.getElem?_cons_succ, List.set_cons_zero, List.set_cons_succ, Option.bind_some, Option.map_some, f_nil, f_cons, f_some, f_nx, f_ct, f_bk, f_rt, f_ex, a_putV, a_pv0, a_pv1, a_put, a_sp0, a_sp1, a_sp2, a_sp3, a_sp4, a_app, a_sa1, a_sa2, a_aug, a_au1, a_au2, a_au3, gEq_int, gNe_int, ct_rf, ct_own, if_true, if_false, Bool.false_eq_true, a_try, a_tryK_0, a_tryK_1, a_tryK_2, a_tryH_0, a_tryH_1, a_tryK2_0, a_tryK2_1, a_hdS_0, a_hdS_1, a_compX, a_compKX_0, a_fld, a_meth, a_prop, a_propK, a_propE, a_make, a_makeK, a_makeE, a_putF, a_pfK, a_lkv, a_lkvK, a_dct1, a_dct1K, a_dct1K2, a_dct2, a_key, a_putK, a_pk0, a_pk1, a_pk2, a_rg2, a_rg2K, a_rg2K2, a_oL, a_raiseF, a_xr1, a_xr2, a_rgDn, a_xf, a_sortK, a_listK, a_lsK, a_tix, a_tixK, a_isX, a_isXv, a_isxvK, a_isxK, a_binV, a_get2, a_g2K, a_ixk, a_ixkK, a_ixkE, hd, ix0, ix1, ix2, ix3', n4, x1, x2, x3, len_l, int1, big, bigv, e1, e2, e5, pm, dm]
        exact ⟨_, _, rfl, ⟨cs, p, r / m, t, rfl, ⟨H.pos, h0, h1, Int.ediv_nonneg r0 (by omega), H.t0, H.t1, hl⟩⟩, lt_m r⟩
    · have e5 : decide (0 < r) = false := decide_eq_false hr
      have t0 := H.t0
      have t1 := H.t1
      obtain ⟨q, eq, q0, q1⟩ := mixed_ev ((t + 1) % 2147483549) p ⟨by omega, by omega⟩ ⟨by omega, by omega⟩
      rcases hskip with e1 | ⟨e1, e2⟩
      · simp -implicitDefEqProofs only [F__law_take, a_seq, a_expr, a_ret, a_retO, a_set, a_setO, a_if, a_unp, a_for, a_nil, a_retN, a_then_0, a_then_1, a_then_2, a_then_3, a_sK_0, a_sK_1, a_ifS_0, a_ifS_1, a_ifS_2, a_k_0, a_k_1, a_k_2, a_k_3, a_k_4, a_k_5, a_k_6, a_setV, a_setOd, a_setVK_0, a_setVK_1, a_setVK_2, a_setVK_3, a_setVK_4, a_setVK_5, a_c, a_var, a_varK_0, a_varK_1, a_bin, a_binK_0, a_binK_1, a_binK_2, a_binK_3, a_oE_0, a_oE_1, a_un, a_unK_0, a_unK_1, a_unK_2, a_unK_3, a_test, a_tru, a_not, a_asB_0, a_asB_1, a_asB_2, a_asB_3, a_lst_0, a_lst_1, a_and, a_or, a_andK_0, a_andK_1, a_andK_2, a_andK_3, a_andK_4, a_andK_5, a_dIf, a_tand, a_tor, a_tnot, a_ifK_0, a_ifK_1, a_ifK_2, a_ifK_3, a_ifK_4, a_cons, a_consK_0, a_consK_1, a_consK_2, a_consK_3, a_consK_4, a_refA, a_refK_0, a_refK_1, a_refK_2, a_cb, a_tup, a_dLst, a_vals0, a_vals1, a_vals2, a_vals3, a_vals4, call_eq, callO_eq, a_call1, a_call2, a_call3, a_call4, a_rf0, a_rf1, a_rf2, a_rfK_0, a_rfK_1, a_rfK_2, a_end0_0, a_end0_1, a_end0_2, a_end0_3, a_end1, a_put1_0, a_put1_1, a_look, a_lkK_0, a_lkK_1, a_lkK_2, a_ixV, a_ixK_0, a_ixK_1, a_ixK_2, a_lenV, a_truV, a_len_0, a_len_1, a_len_2, a_len_3, a_len_4, a_it, a_rg1, a_rgL, a_en, a_zp, a_itK_0, a_itK_1, a_itK_2, a_itE_0, a_itE_1, a_comp, a_compK_0, a_compK_1, a_isi, a_isO, a_gI_0, a_gI_1, a_gI_2, List.getElem?_cons_zero, List.getElem?_cons_succ, List.set_cons_zero, List.set_cons_succ, Option.bind_some, Option.map_some, f_nil, f_cons, f_some, f_nx, f_ct, f_bk, f_rt, f_ex, a_putV, a_pv0, a_pv1, a_put, a_sp0, a_sp1, a_sp2, a_sp3, a_sp4, a_app, a_sa1, a_sa2, a_aug, a_au1, a_au2, a_au3, gEq_int, gNe_int, ct_rf, ct_own, if_true, if_false, Bool.false_eq_true, a_try, a_tryK_0, a_tryK_1, a_tryK_2, a_tryH_0, a_tryH_1, a_tryK2_0, a_tryK2_1, a_hdS_0, a_hdS_1, a_compX, a_compKX_0, a_fld, a_meth, a_prop, a_propK, a_propE, a_make, a_makeK, a_makeE, a_putF, a_pfK, a_lkv, a_lkvK, a_dct1, a_dct1K, a_dct1K2, a_dct2, a_key, a_putK, a_pk0, a_pk1, a_pk2, a_rg2, a_rg2K, a_rg2K2, a_oL, a_raiseF, a_xr1, a_xr2, a_rgDn, a_xf, a_sortK, a_listK, a_lsK, a_tix, a_tixK, a_isX, a_isXv, a_isxvK, a_isxK, a_binV, a_get2, a_g2K, a_ixk, a_ixkK, a_ixkE, hd, ix0, ix1, ix2, ix3', n4, x1, x2, x3, len_l, int1, big, bigv, e1, e5, eq, pm, dm, p2]
        exact ⟨_, _, rfl, ⟨cs, p, r, (t + 1) % 2147483549, rfl, ⟨H.pos, h0, h1, r0, by omega, by omega, hl⟩⟩, lt_m q⟩
      · simp -implicitDefEqProofs only [F__law_take, a_seq, a_expr, a_ret, a_retO, a_set, a_setO, a_if, a_unp, a_for, a_nil, a_retN, a_then_0, a_then_1, a_then_2, a_then_3, a_sK_0, a_sK_1, a_ifS_0, a_ifS_1, a_ifS_2, a_k_0, a_k_1, a_k_2, a_k_3, a_k_4, a_k_5, a_k_6, a_setV, a_setOd, a_setVK_0, a_setVK_1, a_setVK_2, a_setVK_3, a_setVK_4, a_setVK_5, a_c, a_var, a_varK_0, a_varK_1, a_bin, a_binK_0, a_binK_1, a_binK_2, a_binK_3, a_oE_0, a_oE_1, a_un, a_unK_0, a_unK_1, a_unK_2, a_unK_3, a_test, a_tru, a_not, a_asB_0, a_asB_1, a_asB_2, a_asB_3, a_lst_0, a_lst_1, a_and, a_or, a_andK_0, a_andK_1, a_andK_2, a_andK_3, a_andK_4, a_andK_5, a_dIf, a_tand, a_tor, a_tnot, a_ifK_0, a_ifK_1, a_ifK_2, a_ifK_3, a_ifK_4, a_cons, a_consK_0, a_consK_1, a_consK_2, a_consK_3, a_consK_4, a_refA, a_refK_0, a_refK_1, a_refK_2, a_cb, a_tup, a_dLst, a_vals0, a_vals1, a_vals2, a_vals3, a_vals4, call_eq, callO_eq, a_call1, a_call2, a_call3, a_call4, a_rf0, a_rf1, a_rf2, a_rfK_0, a_rfK_1, a_rfK_2, a_end0_0, a_end0_1, a_end0_2, a_end0_3, a_end1, a_put1_0, a_put1_1, a_look, a_lkK_0, a_lkK_1, a_lkK_2, a_ixV, a_ixK_0, a_ixK_1, a_ixK_2, a_lenV, a_truV, a_len_0, a_len_1, a_len_2, a_len_3, a_len_4, a_it, a_rg1, a_rgL, a_en, a_zp, a_itK_0, a_itK_1, a_itK_2, a_itE_0, a_itE_1, a_comp, a_compK_0, a_compK_1, a_isi, a_isO, a_gI_0, a_gI_1, a_gI_2, List.getElem?_cons_zero, List.getElem?_cons_succ, List.set_cons_zero, List.set_cons_succ, Option.bind_some, Option.map_some, f_nil, f_cons, f_some, f_nx, f_ct, f_bk, f_rt, f_ex, a_putV, a_pv0, a_pv1, a_put, a_sp0, a_sp1, a_sp2, a_sp3, a_sp4, a_app, a_sa1, a_sa2, a_aug, a_au1, a_au2, a_au3, gEq_int, gNe_int, ct_rf, ct_own, if_true, if_false, Bool.false_eq_true, a_try, a_tryK_0, a_tryK_1, a_tryK_2, a_tryH_0, a_tryH_1, a_tryK2_0, a_tryK2_1, a_hdS_0, a_hdS_1, a_compX, a_compKX_0, a_fld, a_meth, a_prop, a_propK, a_propE, a_make, a_makeK, a_makeE, a_putF, a_pfK, a_lkv, a_lkvK, a_dct1, a_dct1K, a_dct1K2, a_dct2, a_key, a_putK, a_pk0, a_pk1, a_pk2, a_rg2, a_rg2K, a_rg2K2, a_oL, a_raiseF, a_xr1, a_xr2, a_rgDn, a_xf, a_sortK, a_listK, a_lsK, a_tix, a_tixK, a_isX, a_isXv, a_isxvK, a_isxK, a_binV, a_get2, a_g2K, a_ixk, a_ixkK, a_ixkE, hd, ix0, ix1, ix2, ix3', n4, x1, x2, x3, len_l, int1, big, bigv, e1, e2, e5, eq, pm, dm, p2]
        exact ⟨_, _, rfl, ⟨cs, p, r, (t + 1) % 2147483549, rfl, ⟨H.pos, h0, h1, r0, by omega, by omega, hl⟩⟩, lt_m q⟩
end LW

set_option maxRecDepth 100000
set_option maxHeartbeats 2000000
namespace LW
open PySem PySem.Spec PyProof.Rows L2 DL
end LW

set_option maxRecDepth 100000
set_option maxHeartbeats 2000000
namespace LW
open PySem PySem.Spec PyProof.Rows L2 DL
end LW

set_option maxRecDepth 100000
set_option maxHeartbeats 2000000
namespace LW
open PySem PySem.Spec PyProof.Rows L2 DL
theorem lint_ev (i : Int) : fn__law_int [.int i] = .ret (.bl true) [] := by
  rw [o__law_int]
  simp -implicitDefEqProofs only [F__law_int, a_seq, a_expr, a_ret, a_retO, a_set, a_setO, a_if, a_unp, a_for, a_nil, a_retN, a_then_0, a_then_1, a_then_2, a_then_3, a_sK_0, a_sK_1, a_ifS_0, a_ifS_1, a_ifS_2, a_k_0, a_k_1, a_k_2, a_k_3, a_k_4, a_k_5, a_k_6, a_setV, a_setOd, a_setVK_0, a_setVK_1, a_setVK_2, a_setVK_3, a_setVK_4, a_setVK_5, a_c, a_var, a_varK_0, a_varK_1, a_bin, a_binK_0, a_binK_1, a_binK_2, a_binK_3, a_oE_0, a_oE_1, a_un, a_unK_0, a_unK_1, a_unK_2, a_unK_3, a_test, a_tru, a_not, a_asB_0, a_asB_1, a_asB_2, a_asB_3, a_lst_0, a_lst_1, a_and, a_or, a_andK_0, a_andK_1, a_andK_2, a_andK_3, a_andK_4, a_andK_5, a_dIf, a_tand, a_tor, a_tnot, a_ifK_0, a_ifK_1, a_ifK_2, a_ifK_3, a_ifK_4, a_cons, a_consK_0, a_consK_1, a_consK_2, a_consK_3, a_consK_4, a_refA, a_refK_0, a_refK_1, a_refK_2, a_cb, a_tup, a_dLst, a_vals0, a_vals1, a_vals2, a_vals3, a_vals4, call_eq, callO_eq, a_call1, a_call2, a_call3, a_call4, a_rf0, a_rf1, a_rf2, a_rfK_0, a_rfK_1, a_rfK_2, a_end0_0, a_end0_1, a_end0_2, a_end0_3, a_end1, a_put1_0, a_put1_1, a_look, a_lkK_0, a_lkK_1, a_lkK_2, a_ixV, a_ixK_0, a_ixK_1, a_ixK_2, a_lenV, a_truV, a_len_0, a_len_1, a_len_2, a_len_3, a_len_4, a_it, a_rg1, a_rgL, a_en, a_zp, a_itK_0, a_itK_1, a_itK_2, a_itE_0, a_itE_1, a_comp, a_compK_0, a_compK_1, a_isi, a_isO, a_gI_0, a_gI_1, a_gI_2, List.getElem?_cons_zero, List.getElem?_cons_succ, List.set_cons_zero, List.set_cons_succ, Option.bind_some, Option.map_some, f_nil, f_cons, f_some, f_nx, f_ct, f_bk, f_rt, f_ex, a_putV, a_pv0, a_pv1, a_put, a_sp0, a_sp1, a_sp2, a_sp3, a_sp4, a_app, a_sa1, a_sa2, a_aug, a_au1, a_au2, a_au3, gEq_int, gNe_int, ct_rf, ct_own, if_true, if_false, Bool.false_eq_true, a_try, a_tryK_0, a_tryK_1, a_tryK_2, a_tryH_0, a_tryH_1, a_tryK2_0, a_tryK2_1, a_hdS_0, a_hdS_1, a_compX, a_compKX_0, a_fld, a_meth, a_prop, a_propK, a_propE, a_make, a_makeK, a_makeE, a_putF, a_pfK, a_lkv, a_lkvK, a_dct1, a_dct1K, a_dct1K2, a_dct2, a_key, a_putK, a_pk0, a_pk1, a_pk2, a_rg2, a_rg2K, a_rg2K2, a_oL, a_raiseF, a_xr1, a_xr2, a_rgDn, a_xf, a_sortK, a_listK, a_lsK, a_tix, a_tixK, a_isX, a_isXv, a_isxvK, a_isxK, a_binV, a_get2, a_g2K, a_ixk, a_ixkK, a_ixkE, isi_int, s5, s3, Bool.not_false]
  rfl
theorem exact_int (n : Nat) (i : Int) : fn__law_exact (n + 1) [.int i, .int i] = .ret (.bl true) [] := by
  rw [o__law_exact]
  simp -implicitDefEqProofs only [F__law_exact, a_seq, a_expr, a_ret, a_retO, a_set, a_setO, a_if, a_unp, a_for, a_nil, a_retN, a_then_0, a_then_1, a_then_2, a_then_3, a_sK_0, a_sK_1, a_ifS_0, a_ifS_1, a_ifS_2, a_k_0, a_k_1, a_k_2, a_k_3, a_k_4, a_k_5, a_k_6, a_setV, a_setOd, a_setVK_0, a_setVK_1, a_setVK_2, a_setVK_3, a_setVK_4, a_setVK_5, a_c, a_var, a_varK_0, a_varK_1, a_bin, a_binK_0, a_binK_1, a_binK_2, a_binK_3, a_oE_0, a_oE_1, a_un, a_unK_0, a_unK_1, a_unK_2, a_unK_3, a_test, a_tru, a_not, a_asB_0, a_asB_1, a_asB_2, a_asB_3, a_lst_0, a_lst_1, a_and, a_or, a_andK_0, a_andK_1, a_andK_2, a_andK_3, a_andK_4, a_andK_5, a_dIf, a_tand, a_tor, a_tnot, a_ifK_0, a_ifK_1, a_ifK_2, a_ifK_3, a_ifK_4, a_cons, a_consK_0, a_consK_1, a_consK_2, a_consK_3, a_consK_4, a_refA, a_refK_0, a_refK_1, a_refK_2, a_cb, a_tup, a_dLst, a_vals0, a_vals1, a_vals2, a_vals3, a_vals4, call_eq, callO_eq, a_call1, a_call2, a_call3, a_call4, a_rf0, a_rf1, a_rf2, a_rfK_0, a_rfK_1, a_rfK_2, a_end0_0, a_end0_1, a_end0_2, a_end0_3, a_end1, a_put1_0, a_put1_1, a_look, a_lkK_0, a_lkK_1, a_lkK_2, a_ixV, a_ixK_0, a_ixK_1, a_ixK_2, a_lenV, a_truV, a_len_0, a_len_1, a_len_2, a_len_3, a_len_4, a_it, a_rg1, a_rgL, a_en, a_zp, a_itK_0, a_itK_1, a_itK_2, a_itE_0, a_itE_1, a_comp, a_compK_0, a_compK_1, a_isi, a_isO, a_gI_0, a_gI_1, a_gI_2, List.getElem?_cons_zero, List.getElem?_cons_succ, List.set_cons_zero, List.set_cons_succ, Option.bind_some, Option.map_some, f_nil, f_cons, f_some, f_nx, f_ct, f_bk, f_rt, f_ex, a_putV, a_pv0, a_pv1, a_put, a_sp0, a_sp1, a_sp2, a_sp3, a_sp4, a_app, a_sa1, a_sa2, a_aug, a_au1, a_au2, a_au3, gEq_int, gNe_int, ct_rf, ct_own, if_true, if_false, Bool.false_eq_true, a_try, a_tryK_0, a_tryK_1, a_tryK_2, a_tryH_0, a_tryH_1, a_tryK2_0, a_tryK2_1, a_hdS_0, a_hdS_1, a_compX, a_compKX_0, a_fld, a_meth, a_prop, a_propK, a_propE, a_make, a_makeK, a_makeE, a_putF, a_pfK, a_lkv, a_lkvK, a_dct1, a_dct1K, a_dct1K2, a_dct2, a_key, a_putK, a_pk0, a_pk1, a_pk2, a_rg2, a_rg2K, a_rg2K2, a_oL, a_raiseF, a_xr1, a_xr2, a_rgDn, a_xf, a_sortK, a_listK, a_lsK, a_tix, a_tixK, a_isX, a_isXv, a_isxvK, a_isxK, a_binV, a_get2, a_g2K, a_ixk, a_ixkK, a_ixkE, isi_int, s1, s3, s4, (is_non i).1, lint_ev, beq_self_eq_true]
  rfl
theorem exact_tup (n : Nat) (ds : List D) (hl : ds.length ≤ 4096) (ih : ∀ d ∈ ds, fn__law_exact (n + 1) [d, d] = .ret (.bl true) []) : fn__law_exact (n + 2) [.tup ds, .tup ds] = .ret (.bl true) [] := by
  rw [o__law_exact]
  have c : compL (setV 2) (Q__law_exact_0 (fn__law_exact (n + 1))) (E__law_exact_0 (fn__law_exact (n + 1))) [2] (rgF 0 ds.length) [.val (.tup ds), .val (.tup ds), .un] [] = .ok (.lst []) [.val (.tup ds), .val (.tup ds), .un] := by
    have := comp_map (setV 2) (Q__law_exact_0 (fn__law_exact (n + 1))) (E__law_exact_0 (fn__law_exact (n + 1))) [2] (δ := [.val (.tup ds), .val (.tup ds), .un]) (fun _ => false) id rfl (rgF 0 ds.length) [] (by rw [rgF_len]; exact le_line (by simpa using hl)) fun d hd => by
      obtain ⟨k, hk, rfl⟩ := mem_rgF hd
      have e := ih ds[k] (List.getElem_mem hk)
      have ei : idxD (.tup ds) (.int ((k : Nat) : Int)) = some ds[k] := ix_any true (List.getElem?_eq_getElem hk)
      refine ⟨[.val (.tup ds), .val (.tup ds), .val (.int (k : Int))], [.val (.tup ds), .val (.tup ds), .val (.int (k : Int))], rfl, ?_, fun _ => rfl, fun z => by cases z⟩
      simp -implicitDefEqProofs only [Q__law_exact_0, a_seq, a_expr, a_ret, a_retO, a_set, a_setO, a_if, a_unp, a_for, a_nil, a_retN, a_then_0, a_then_1, a_then_2, a_then_3, a_sK_0, a_sK_1, a_ifS_0, a_ifS_1, a_ifS_2, a_k_0, a_k_1, a_k_2, a_k_3, a_k_4, a_k_5, a_k_6, a_setV, a_setOd, a_setVK_0, a_setVK_1, a_setVK_2, a_setVK_3, a_setVK_4, a_setVK_5, a_c, a_var, a_varK_0, a_varK_1, a_bin, a_binK_0, a_binK_1, a_binK_2, a_binK_3, a_oE_0, a_oE_1, a_un, a_unK_0, a_unK_1, a_unK_2, a_unK_3, a_test, a_tru, a_not, a_asB_0, a_asB_1, a_asB_2, a_asB_3, a_lst_0, a_lst_1, a_and, a_or, a_andK_0, a_andK_1, a_andK_2, a_andK_3, a_andK_4, a_andK_5, a_dIf, a_tand, a_tor, a_tnot, a_ifK_0, a_ifK_1, a_ifK_2, a_ifK_3, a_ifK_4, a_cons, a_consK_0, a_consK_1, a_consK_2, a_consK_3, a_consK_4, a_refA, a_refK_0, a_refK_1, a_refK_2, a_cb, a_tup, a_dLst, a_vals0, a_vals1, a_vals2, a_vals3, a_vals4, call_eq, callO_eq, a_call1, a_call2, a_call3, a_call4, a_rf0, a_rf1, a_rf2, a_rfK_0, a_rfK_1, a_rfK_2, a_end0_0, a_end0_1, a_end0_2, a_end0_3, a_end1, a_put1_0, a_put1_1, a_look, a_lkK_0, a_lkK_1, a_lkK_2, a_ixV, a_ixK_0, a_ixK_1, a_ixK_2, a_lenV, a_truV, a_len_0, a_len_1, a_len_2, a_len_3, a_len_4, a_it, a_rg1, a_rgL, a_en, a_zp, a_itK_0, a_itK_1, a_itK_2, a_itE_0, a_itE_1, a_comp, a_compK_0, a_compK_1, a_isi, a_isO, a_gI_0, a_gI_1, a_gI_2, List.getElem?_cons_zero, List.getElem?_cons_succ, List.set_cons_zero, List.set_cons_succ, Option.bind_some, Option.map_some, f_nil, f_cons, f_some, f_nx, f_ct, f_bk, f_rt, f_ex, a_putV, a_pv0, a_pv1, a_put, a_sp0, a_sp1, a_sp2, a_sp3, a_sp4, a_app, a_sa1, a_sa2, a_aug, a_au1, a_au2, a_au3, gEq_int, gNe_int, ct_rf, ct_own, if_true, if_false, Bool.false_eq_true, a_try, a_tryK_0, a_tryK_1, a_tryK_2, a_tryH_0, a_tryH_1, a_tryK2_0, a_tryK2_1, a_hdS_0, a_hdS_1, a_compX, a_compKX_0, a_fld, a_meth, a_prop, a_propK, a_propE, a_make, a_makeK, a_makeE, a_putF, a_pfK, a_lkv, a_lkvK, a_dct1, a_dct1K, a_dct1K2, a_dct2, a_key, a_putK, a_pk0, a_pk1, a_pk2, a_rg2, a_rg2K, a_rg2K2, a_oL, a_raiseF, a_xr1, a_xr2, a_rgDn, a_xf, a_sortK, a_listK, a_lsK, a_tix, a_tixK, a_isX, a_isXv, a_isxvK, a_isxK, a_binV, a_get2, a_g2K, a_ixk, a_ixkK, a_ixkE, ei, e, Bool.not_true]
    rw [this]; simp
  have gE : gEq false (.lst []) (.lst []) = some (.bl true) := rfl
  simp -implicitDefEqProofs only [F__law_exact, a_seq, a_expr, a_ret, a_retO, a_set, a_setO, a_if, a_unp, a_for, a_nil, a_retN, a_then_0, a_then_1, a_then_2, a_then_3, a_sK_0, a_sK_1, a_ifS_0, a_ifS_1, a_ifS_2, a_k_0, a_k_1, a_k_2, a_k_3, a_k_4, a_k_5, a_k_6, a_setV, a_setOd, a_setVK_0, a_setVK_1, a_setVK_2, a_setVK_3, a_setVK_4, a_setVK_5, a_c, a_var, a_varK_0, a_varK_1, a_bin, a_binK_0, a_binK_1, a_binK_2, a_binK_3, a_oE_0, a_oE_1, a_un, a_unK_0, a_unK_1, a_unK_2, a_unK_3, a_test, a_tru, a_not, a_asB_0, a_asB_1, a_asB_2, a_asB_3, a_lst_0, a_lst_1, a_and, a_or, a_andK_0, a_andK_1, a_andK_2, a_andK_3, a_andK_4, a_andK_5, a_dIf, a_tand, a_tor, a_tnot, a_ifK_0, a_ifK_1, a_ifK_2, a_ifK_3, a_ifK_4, a_cons, a_consK_0, a_consK_1, a_consK_2, a_consK_3, a_consK_4, a_refA, a_refK_0, a_refK_1, a_refK_2, a_cb, a_tup, a_dLst, a_vals0, a_vals1, a_vals2, a_vals3, a_vals4, call_eq, callO_eq, a_call1, a_call2, a_call3, a_call4, a_rf0, a_rf1, a_rf2, a_rfK_0, a_rfK_1, a_rfK_2, a_end0_0, a_end0_1, a_end0_2, a_end0_3, a_end1, a_put1_0, a_put1_1, a_look, a_lkK_0, a_lkK_1, a_lkK_2, a_ixV, a_ixK_0, a_ixK_1, a_ixK_2, a_lenV, a_truV, a_len_0, a_len_1, a_len_2, a_len_3, a_len_4, a_it, a_rg1, a_rgL, a_en, a_zp, a_itK_0, a_itK_1, a_itK_2, a_itE_0, a_itE_1, a_comp, a_compK_0, a_compK_1, a_isi, a_isO, a_gI_0, a_gI_1, a_gI_2, List.getElem?_cons_zero, List.getElem?_cons_succ, List.set_cons_zero, List.set_cons_succ, Option.bind_some, Option.map_some, f_nil, f_cons, f_some, f_nx, f_ct, f_bk, f_rt, f_ex, a_putV, a_pv0, a_pv1, a_put, a_sp0, a_sp1, a_sp2, a_sp3, a_sp4, a_app, a_sa1, a_sa2, a_aug, a_au1, a_au2, a_au3, gEq_int, gNe_int, ct_rf, ct_own, if_true, if_false, Bool.false_eq_true, a_try, a_tryK_0, a_tryK_1, a_tryK_2, a_tryH_0, a_tryH_1, a_tryK2_0, a_tryK2_1, a_hdS_0, a_hdS_1, a_compX, a_compKX_0, a_fld, a_meth, a_prop, a_propK, a_propE, a_make, a_makeK, a_makeE, a_putF, a_pfK, a_lkv, a_lkvK, a_dct1, a_dct1K, a_dct1K2, a_dct2, a_key, a_putK, a_pk0, a_pk1, a_pk2, a_rg2, a_rg2K, a_rg2K2, a_oL, a_raiseF, a_xr1, a_xr2, a_rgDn, a_xf, a_sortK, a_listK, a_lsK, a_tix, a_tixK, a_isX, a_isXv, a_isxvK, a_isxK, a_binV, a_get2, a_g2K, a_ixk, a_ixkK, a_ixkE, isi_tup, s2, Bool.not_true, beq_self_eq_true, itF ds.length hl, c, gLst0, gE]
  rfl
end LW

set_option maxRecDepth 100000
set_option maxHeartbeats 2000000
namespace LW
open PySem PySem.Spec PyProof.Rows L2 DL
end LW

set_option maxRecDepth 100000
set_option maxHeartbeats 4000000
namespace LW
open PySem PySem.Spec PyProof.Rows L2 DL
/-! ### law k61 -/
def bareL : List D := [.exv "BadStands" [] [], .exv "BadLot" [] [], .exv "NoMember" [] [], .exv "UnlikeStands" [] [], .exv "NotAgain" [] [], .exv "BadKind" [] [], .exv "BadManner" [] [], .exv "NotAll" [] [], .exv "NoCounter" [] [], .exv "BadMost" [] [], .exv "BadSide" [] [], .exv "NoDeed" [] []]
def singL (a : Int) : List D := [.exv "TooMany" ["most"] [.int a], .exv "BadRow" ["place"] [.int a], .exv "NoStep" ["name"] [.int a], .exv "BadProgram" ["what"] [.int a], .exv "BadStand" ["stand"] [.int a], .exv "NoWay" ["stand"] [.int a], .exv "NotLet" ["what"] [.int a], .exv "BadRewriting" ["what"] [.int a],
  .exv "NoMove" ["what"] [.int a], .exv "NotTest" ["name"] [.int a], .exv "NotEven" ["member"] [.int a], .exv "BadPair" ["what"] [.int a], .exv "BadFact" ["place"] [.int a], .exv "Spoilt" ["place"] [.int a], .exv "BadDemand" ["place"] [.int a]]
theorem sing_ev (a : Int) : fn__law_singles [.int a] = .ret (.lst [.lst (singL a), .lst ((List.replicate 15 a).map D.int)]) [] := by kernel_rfl
def pairL (a b : Int) : List D := [.exv "BadGlasses" ["what", "place"] [.int a, .int b], .exv "BadText" ["at", "what"] [.int a, .int b], .exv "BadSteps" ["what", "place"] [.int a, .int b], .exv "BadLines" ["number", "word"] [.int a, .int b], .exv "BadMove" ["index", "what"] [.int a, .int b], .exv "BadCells" ["what", "place"] [.int a, .int b], .exv "NoneFits" ["place", "other"] [.int a, .int b], .exv "BadEdit" ["place", "what"] [.int a, .int b]]
theorem pair_ev (a b : Int) : fn__law_pairs [.int a, .int b] = .ret (.lst [.lst (pairL a b), .lst (List.replicate 8 (.tup [.int a, .int b]))]) [] := by kernel_rfl
abbrev madeL (a b : Int) : List D := bareL ++ singL a ++ pairL a b
abbrev env61 (ns : List Int) (d : D) (a b : Int) (s4 s5 s6 s7 s8 : Sl) : DEnv := [.val (.scr ns), .own d, .val (.int a), .val (.int b), s4, s5, s6, s7, s8, .un, .un, .un]
def tru (k : Nat) : List D := (List.range 35).map fun j => .bl (j == k)
abbrev sS (a : Int) : Sl := .val (.lst [.lst (singL a), .lst ((List.replicate 15 a).map D.int)])
abbrev sP (a b : Int) : Sl := .val (.lst [.lst (pairL a b), .lst (List.replicate 8 (.tup [.int a, .int b]))])
theorem loop_ev (ns : List Int) (d : D) (a b : Int) : sFor (dRg1 (dLenV 6)) (setV 7) B_law_0 (env61 ns d a b (sS a) (sP a b) (.val (.lst (madeL a b))) .un .un) = .nx (env61 ns d a b (sS a) (sP a b) (.val (.lst (madeL a b))) (.val (.int 34)) (.val (.lst (tru 34)))) := by kernel_rfl
abbrev endE (ns : List Int) (d : D) (a b : Int) : DEnv := env61 ns d a b (sS a) (sP a b) (.val (.lst (madeL a b))) (.val (.int 34)) (.val (.lst (tru 34)))
theorem last_ev (ns : List Int) (d : D) (a b : Int) : sRet (dBin (gEq false) (dComp (dIt (dCall [false] [] fn__law_classes_of (dCons (dMk0 "CheckerError") dNil))) (setV 11) Q_law_1 E_law_3 [11]) (dLst dNil)) (endE ns d a b) = .rt (.bl true) (endE ns d a b) := by kernel_rfl
theorem made_ev (ns : List Int) (d : D) (a b : Int) : sSet 6 (dBin gAdd (dBin gAdd (dCall [] [] fn__law_bare dNil) (dIxV 4 (dC (.int 0)))) (dIxV 5 (dC (.int 0)))) (env61 ns d a b (sS a) (sP a b) .un .un .un) = .nx (env61 ns d a b (sS a) (sP a b) (.val (.lst (madeL a b))) .un .un) := by kernel_rfl
theorem tail_ev (ns : List Int) (d : D) (a b : Int) : sSeq (sSet 6 (dBin gAdd (dBin gAdd (dCall [] [] fn__law_bare dNil) (dIxV 4 (dC (.int 0)))) (dIxV 5 (dC (.int 0))))) (sSeq (sFor (dRg1 (dLenV 6)) (setV 7) B_law_0) (sRet (dBin (gEq false) (dComp (dIt (dCall [false] [] fn__law_classes_of (dCons (dMk0 "CheckerError") dNil))) (setV 11) Q_law_1 E_law_3 [11]) (dLst dNil)))) (env61 ns d a b (sS a) (sP a b) .un .un .un) = .rt (.bl true) (endE ns d a b) := by
  simp -implicitDefEqProofs only [sSeq, SO.then, made_ev, loop_ev, last_ev]
theorem ex1 (ns : List Int) (d : D) (a b : Int) : (dCallB gTuple (dCons (dIxV 4 (dC (.int 1))) dNil)) (env61 ns d a b (sS a) (sP a b) .un .un .un) = .ok (.tup ((List.replicate 15 a).map D.int)) (env61 ns d a b (sS a) (sP a b) .un .un .un) := by kernel_rfl
theorem ex2 (ns : List Int) (d : D) (a b : Int) : (dCallB gTuple (dCons (dComp (dIt (dIxV 4 (dC (.int 0)))) (setV 9) dYes E_law_0 [9]) dNil)) (env61 ns d a b (sS a) (sP a b) .un .un .un) = .ok (.tup ((List.replicate 15 a).map D.int)) (env61 ns d a b (sS a) (sP a b) .un .un .un) := by kernel_rfl
theorem ex3 (ns : List Int) (d : D) (a b : Int) : (dCallB gTuple (dCons (dIxV 5 (dC (.int 1))) dNil)) (env61 ns d a b (sS a) (sP a b) .un .un .un) = .ok (.tup (List.replicate 8 (.tup [.int a, .int b]))) (env61 ns d a b (sS a) (sP a b) .un .un .un) := by kernel_rfl
theorem ex4 (ns : List Int) (d : D) (a b : Int) : (dCallB gTuple (dCons (dComp (dIt (dIxV 5 (dC (.int 0)))) (setV 9) dYes E_law_1 [9]) dNil)) (env61 ns d a b (sS a) (sP a b) .un .un .un) = .ok (.tup (List.replicate 8 (.tup [.int a, .int b]))) (env61 ns d a b (sS a) (sP a b) .un .un .un) := by kernel_rfl
theorem x15 (a : Int) : fn__law_exact 4 [.tup ((List.replicate 15 a).map D.int), .tup ((List.replicate 15 a).map D.int)] = .ret (.bl true) [] :=
  exact_tup 2 _ (by simp) fun d hd => by
    obtain ⟨n, _, rfl⟩ := List.mem_map.mp hd
    exact exact_int 2 n
theorem x8 (a b : Int) : fn__law_exact 4 [.tup (List.replicate 8 (.tup [.int a, .int b])), .tup (List.replicate 8 (.tup [.int a, .int b]))] = .ret (.bl true) [] :=
  exact_tup 2 _ (by simp) fun d hd => by
    obtain rfl := List.eq_of_mem_replicate hd
    exact exact_tup 1 _ (by simp) fun d hd => by
      rcases List.mem_cons.mp hd with rfl | hd
      · exact exact_int 1 a
      · obtain rfl := List.mem_singleton.mp hd
        exact exact_int 1 b
theorem call2 {fn : List D → FO} {A B : DE} {δ : DEnv} {x y : D} (ha : A δ = .ok x δ) (hb : B δ = .ok y δ) (hf : fn [x, y] = .ret (.bl true) []) : sIf (tNotD (dTru (dCall [false, false] [] fn (dCons A (dCons B dNil))))) (sRet (dC (.bl false))) sNil δ = .nx δ := by
  have hc : dCall [false, false] [] fn (dCons A (dCons B dNil)) δ = .ok (.bl true) δ := by
    simp only [dCall, dCons, dNil, ha, hb, EO.bind]
    rw [if_pos ⟨rfl, rfl⟩]
    show (match fn [x, y] with
      | .ret d rs => match putR δ [] rs with | some δ2 => EO.ok d δ2 | none => .st
      | .new d rs => match putR δ [] rs with | some δ2 => .ok d δ2 | none => .st
      | .ex c ns es rs => match putR δ [] rs with | some δ2 => .ex c ns es δ2 | none => .st
      | .st => .st) = _
    rw [hf]
    rfl
  simp only [sIf, tNotD, dTru, hc, EO.bind]
  rfl
theorem pw6 : (if cPow 10 6 = true then some (D.int (10 ^ Int.toNat 6)) else none) = some (.int 1000000) := by kernel_rfl
theorem rest61 (ns : List Int) (d : D) (a b : Int) : (sSeq (sIf (tNotD (dTru (dCall [false, false] [] (fn__law_exact 4) (dCons (dCallB gTuple (dCons (dIxV 4 (dC (.int 1))) dNil)) (dCons (dCallB gTuple (dCons (dComp (dIt (dIxV 4 (dC (.int 0)))) (setV 9) dYes E_law_0 [9]) dNil)) dNil))))) (sRet (dC (.bl false))) sNil) (sSeq (sIf (tNotD (dTru (dCall [false, false] [] (fn__law_exact 4) (dCons (dCallB gTuple (dCons (dIxV 5 (dC (.int 1))) dNil)) (dCons (dCallB gTuple (dCons (dComp (dIt (dIxV 5 (dC (.int 0)))) (setV 9) dYes E_law_1 [9]) dNil)) dNil))))) (sRet (dC (.bl false))) sNil) (sSeq (sSet 6 (dBin gAdd (dBin gAdd (dCall [] [] fn__law_bare dNil) (dIxV 4 (dC (.int 0)))) (dIxV 5 (dC (.int 0))))) (sSeq (sFor (dRg1 (dLenV 6)) (setV 7) B_law_0) (sRet (dBin (gEq false) (dComp (dIt (dCall [false] [] fn__law_classes_of (dCons (dMk0 "CheckerError") dNil))) (setV 11) Q_law_1 E_law_3 [11]) (dLst dNil))))))) (env61 ns d a b (sS a) (sP a b) .un .un .un) = .rt (.bl true) (endE ns d a b) := by
  rw [sSeq, call2 (ex1 ns d a b) (ex2 ns d a b) (x15 a), SO.then, sSeq, call2 (ex3 ns d a b) (ex4 ns d a b) (x8 a b), SO.then]
  exact tail_ev ns d a b
theorem main (ns : List Int) (h : ns.length ≤ 63) : fn_law [.scr ns] = .ret (.bl true) [] := by
  obtain ⟨d, e1, h1⟩ := hand_ev ns h
  obtain ⟨r, d2, e2, h2, hr1, hr2⟩ := take_ev d 1000000 h1 (by omega) (by omega)
  obtain ⟨t, d3, e3, h3, ht1, ht2⟩ := take_ev d2 1000000 h2 (by omega) (by omega)
  have s1 := sing_ev (r - 500000)
  have s2 := pair_ev (r - 500000) (t + 500001)
  have bk := rest61 ns d3 (r - 500000) (t + 500001)
  rw [o_law, F_law]
  generalize (sSeq (sIf (tNotD (dTru (dCall [false, false] [] (fn__law_exact 4) (dCons (dCallB gTuple (dCons (dIxV 4 (dC (.int 1))) dNil)) _)))) _ _) _ : DS) = bk0 at bk ⊢
  simp -implicitDefEqProofs only [a_seq, a_expr, a_ret, a_retO, a_set, a_setO, a_if, a_unp, a_for, a_nil, a_retN, a_then_0, a_then_1, a_then_2, a_then_3, a_sK_0, a_sK_1, a_ifS_0, a_ifS_1, a_ifS_2, a_k_0, a_k_1, a_k_2, a_k_3, a_k_4, a_k_5, a_k_6, a_setV, a_setOd, a_setVK_0, a_setVK_1, a_setVK_2, a_setVK_3, a_setVK_4, a_setVK_5, a_c, a_var, a_varK_0, a_varK_1, a_bin, a_binK_0, a_binK_1, a_binK_2, a_binK_3, a_oE_0, a_oE_1, a_un, a_unK_0, a_unK_1, a_unK_2, a_unK_3, a_test, a_tru, a_not, a_asB_0, a_asB_1, a_asB_2, a_asB_3, a_lst_0, a_lst_1, a_and, a_or, a_andK_0, a_andK_1, a_andK_2, a_andK_3, a_andK_4, a_andK_5, a_dIf, a_tand, a_tor, a_tnot, a_ifK_0, a_ifK_1, a_ifK_2, a_ifK_3, a_ifK_4, a_cons, a_consK_0, a_consK_1, a_consK_2, a_consK_3, a_consK_4, a_refA, a_refK_0, a_refK_1, a_refK_2, a_cb, a_tup, a_dLst, a_vals0, a_vals1, a_vals2, a_vals3, a_vals4, call_eq, callO_eq, a_call1, a_call2, a_call3, a_call4, a_rf0, a_rf1, a_rf2, a_rfK_0, a_rfK_1, a_rfK_2, a_end0_0, a_end0_1, a_end0_2, a_end0_3, a_end1, a_put1_0, a_put1_1, a_look, a_lkK_0, a_lkK_1, a_lkK_2, a_ixV, a_ixK_0, a_ixK_1, a_ixK_2, a_lenV, a_truV, a_len_0, a_len_1, a_len_2, a_len_3, a_len_4, a_it, a_rg1, a_rgL, a_en, a_zp, a_itK_0, a_itK_1, a_itK_2, a_itE_0, a_itE_1, a_comp, a_compK_0, a_compK_1, a_isi, a_isO, a_gI_0, a_gI_1, a_gI_2, List.getElem?_cons_zero, List.getElem?_cons_succ, List.set_cons_zero, List.set_cons_succ, Option.bind_some, Option.map_some, f_nil, f_cons, f_some, f_nx, f_ct, f_bk, f_rt, f_ex, a_putV, a_pv0, a_pv1, a_put, a_sp0, a_sp1, a_sp2, a_sp3, a_sp4, a_app, a_sa1, a_sa2, a_aug, a_au1, a_au2, a_au3, gEq_int, gNe_int, ct_rf, ct_own, if_true, if_false, Bool.false_eq_true, a_try, a_tryK_0, a_tryK_1, a_tryK_2, a_tryH_0, a_tryH_1, a_tryK2_0, a_tryK2_1, a_hdS_0, a_hdS_1, a_compX, a_compKX_0, a_fld, a_meth, a_prop, a_propK, a_propE, a_make, a_makeK, a_makeE, a_putF, a_pfK, a_lkv, a_lkvK, a_dct1, a_dct1K, a_dct1K2, a_dct2, a_key, a_putK, a_pk0, a_pk1, a_pk2, a_rg2, a_rg2K, a_rg2K2, a_oL, a_raiseF, a_xr1, a_xr2, a_rgDn, a_xf, a_sortK, a_listK, a_lsK, a_tix, a_tixK, a_isX, a_isXv, a_isxvK, a_isxK, a_binV, a_get2, a_g2K, a_ixk, a_ixkK, a_ixkE, a_sl, a_slK0, a_slK1, a_slH, a_slL, a_slE, a_slLst, a_slTup, a_cw, a_tupV, a_tpK, a_cwb, a_ch, a_chK, a_ch1, a_ch2, a_ch2', a_ch3, a_chain3, a_ch3A, a_ch3B, a_ch3K0, a_ch3K0', a_ch3K1, a_ch3K2, a_ch3K2', a_ch3K3, a_popXI, a_popX0, a_popXE, e1, e2, e3, s1, s2, pw6]
  simp only [bk]
  rfl
end LW

set_option maxHeartbeats 0
namespace LW
open PySem PySem.Spec PyProof.Rows L2 DL
theorem facts {P : Program} {w : World} {K : PySem.W.Frag} {h : Heap} {mg : Str → Option Value} {f : Addr} (main : ∀ ns : List Int, ns.length ≤ 63 → fn_law [.scr ns] = .ret (.bl true) []) (X : K.In h) (G : h.Ns mainGlobals mg) (hfa : mg ("law" : Str) = some (.ref f)) (cy : SaysY fa fn exs tabs w K) :
    ∃ fd : FuncData, (∀ (s : Shared) (v : Value), BindsTo s fd ⟨[v], []⟩ [("_law_script", v)]) ∧ ∀ base : Heap, K.In base → base.Ns mainGlobals mg → FnOk P w K mg base (L2.CX P w) 6 f fd ["_law_script"] (spTrue K) := by
  have c := cy.z
  have T : Ft P w K mg ⟨fun x => some (He.ga K x), P, w⟩ := by
    refine ⟨?_, ?_, ?_, ?_, ?_, ?_, ?_, ?_, ?_, ?_, ?_, ?_, ?_, ?_, ?_, ?_, ?_, ?_, ?_, ?_, ?_, ?_, ?_, ?_, ?_, ?_, ?_, ?_, ?_, ?_, ?_, ?_, ?_, ?_, ?_, ?_, ?_, ?_, ?_, ?_, ?_, ?_, ?_, ?_, ?_, ?_, ?_, ?_, ?_, ?_, ?_, ?_, ?_, ?_, ?_, ?_, ?_, ?_, ?_, ?_, ?_, ?_, ?_, ?_, ?_, ?_, ?_, ?_, ?_, ?_, ?_, ?_, ?_, ?_, ?_, ?_, ?_, ?_, ?_, ?_, ?_, ?_, ?_, ?_, ?_, ?_, ?_, ?_, ?_, ?_, ?_, ?_, ?_, ?_, ?_, ?_, ?_, ?_, ?_, ?_, ?_, ?_, ?_, ?_, ?_, ?_⟩
    · rfl
    · rfl
    · exact He.free_ok X G (c.a.fact 0 (f := .free "ValueError") rfl)
    · exact He.free_ok X G (c.a.fact 1 (f := .free "abs") rfl)
    · exact He.free_ok X G (c.a.fact 2 (f := .free "bool") rfl)
    · exact He.free_ok X G (c.a.fact 3 (f := .free "int") rfl)
    · exact He.free_ok X G (c.a.fact 4 (f := .free "isinstance") rfl)
    · exact He.free_ok X G (c.a.fact 5 (f := .free "len") rfl)
    · exact He.free_ok X G (c.a.fact 6 (f := .free "range") rfl)
    · exact He.free_ok X G (c.a.fact 7 (f := .free "str") rfl)
    · exact He.free_ok X G (c.a.fact 8 (f := .free "tuple") rfl)
    · obtain ⟨fd, F⟩ := c.a.def_ 10 (d := d_x_BadCells) rfl
      exact ⟨_, _, fd, rfl, He.glo_ok X G (c.a.fact 9 (f := .glo "BadCells") rfl), oexB_ok (c.ex 0 (t := (fun K => oexB K (He.ga K "BadCells"))) rfl), xin_ok (c.ex 1 (t := (fun K => xinB K (He.ga K "BadCells"))) rfl), xty_ok (c.ex 2 (t := (fun K => xtyB K (He.ga K "BadCells"))) rfl), He.noat_ok (c.a.fact 10 (f := .noat "BadCells" "what") rfl), He.noat_ok (c.a.fact 11 (f := .noat "BadCells" "place") rfl), F⟩
    · obtain ⟨fd, F⟩ := c.a.def_ 11 (d := d_x_BadDemand) rfl
      exact ⟨_, _, fd, rfl, He.glo_ok X G (c.a.fact 12 (f := .glo "BadDemand") rfl), oexB_ok (c.ex 3 (t := (fun K => oexB K (He.ga K "BadDemand"))) rfl), xin_ok (c.ex 4 (t := (fun K => xinB K (He.ga K "BadDemand"))) rfl), xty_ok (c.ex 5 (t := (fun K => xtyB K (He.ga K "BadDemand"))) rfl), He.noat_ok (c.a.fact 13 (f := .noat "BadDemand" "place") rfl), F⟩
    · obtain ⟨fd, F⟩ := c.a.def_ 12 (d := d_x_BadEdit) rfl
      exact ⟨_, _, fd, rfl, He.glo_ok X G (c.a.fact 14 (f := .glo "BadEdit") rfl), oexB_ok (c.ex 6 (t := (fun K => oexB K (He.ga K "BadEdit"))) rfl), xin_ok (c.ex 7 (t := (fun K => xinB K (He.ga K "BadEdit"))) rfl), xty_ok (c.ex 8 (t := (fun K => xtyB K (He.ga K "BadEdit"))) rfl), He.noat_ok (c.a.fact 15 (f := .noat "BadEdit" "place") rfl), He.noat_ok (c.a.fact 16 (f := .noat "BadEdit" "what") rfl), F⟩
    · obtain ⟨fd, F⟩ := c.a.def_ 13 (d := d_x_BadFact) rfl
      exact ⟨_, _, fd, rfl, He.glo_ok X G (c.a.fact 17 (f := .glo "BadFact") rfl), oexB_ok (c.ex 9 (t := (fun K => oexB K (He.ga K "BadFact"))) rfl), xin_ok (c.ex 10 (t := (fun K => xinB K (He.ga K "BadFact"))) rfl), xty_ok (c.ex 11 (t := (fun K => xtyB K (He.ga K "BadFact"))) rfl), He.noat_ok (c.a.fact 18 (f := .noat "BadFact" "place") rfl), F⟩
    · obtain ⟨fd, F⟩ := c.a.def_ 14 (d := d_x_BadGlasses) rfl
      exact ⟨_, _, fd, rfl, He.glo_ok X G (c.a.fact 19 (f := .glo "BadGlasses") rfl), oexB_ok (c.ex 12 (t := (fun K => oexB K (He.ga K "BadGlasses"))) rfl), xin_ok (c.ex 13 (t := (fun K => xinB K (He.ga K "BadGlasses"))) rfl), xty_ok (c.ex 14 (t := (fun K => xtyB K (He.ga K "BadGlasses"))) rfl), He.noat_ok (c.a.fact 20 (f := .noat "BadGlasses" "what") rfl), He.noat_ok (c.a.fact 21 (f := .noat "BadGlasses" "place") rfl), F⟩
    · obtain ⟨fd, F⟩ := c.a.def_ 15 (d := d_x_BadLines) rfl
      exact ⟨_, _, fd, rfl, He.glo_ok X G (c.a.fact 22 (f := .glo "BadLines") rfl), oexB_ok (c.ex 15 (t := (fun K => oexB K (He.ga K "BadLines"))) rfl), xin_ok (c.ex 16 (t := (fun K => xinB K (He.ga K "BadLines"))) rfl), xty_ok (c.ex 17 (t := (fun K => xtyB K (He.ga K "BadLines"))) rfl), He.noat_ok (c.a.fact 23 (f := .noat "BadLines" "number") rfl), He.noat_ok (c.a.fact 24 (f := .noat "BadLines" "word") rfl), F⟩
    · obtain ⟨fd, F⟩ := c.a.def_ 16 (d := d_x_BadMove) rfl
      exact ⟨_, _, fd, rfl, He.glo_ok X G (c.a.fact 25 (f := .glo "BadMove") rfl), oexB_ok (c.ex 18 (t := (fun K => oexB K (He.ga K "BadMove"))) rfl), xin_ok (c.ex 19 (t := (fun K => xinB K (He.ga K "BadMove"))) rfl), xty_ok (c.ex 20 (t := (fun K => xtyB K (He.ga K "BadMove"))) rfl), He.noat_ok (c.a.fact 26 (f := .noat "BadMove" "index") rfl), He.noat_ok (c.a.fact 27 (f := .noat "BadMove" "what") rfl), F⟩
    · obtain ⟨fd, F⟩ := c.a.def_ 17 (d := d_x_BadPair) rfl
      exact ⟨_, _, fd, rfl, He.glo_ok X G (c.a.fact 28 (f := .glo "BadPair") rfl), oexB_ok (c.ex 21 (t := (fun K => oexB K (He.ga K "BadPair"))) rfl), xin_ok (c.ex 22 (t := (fun K => xinB K (He.ga K "BadPair"))) rfl), xty_ok (c.ex 23 (t := (fun K => xtyB K (He.ga K "BadPair"))) rfl), He.noat_ok (c.a.fact 29 (f := .noat "BadPair" "what") rfl), F⟩
    · obtain ⟨fd, F⟩ := c.a.def_ 18 (d := d_x_BadProgram) rfl
      exact ⟨_, _, fd, rfl, He.glo_ok X G (c.a.fact 30 (f := .glo "BadProgram") rfl), oexB_ok (c.ex 24 (t := (fun K => oexB K (He.ga K "BadProgram"))) rfl), xin_ok (c.ex 25 (t := (fun K => xinB K (He.ga K "BadProgram"))) rfl), xty_ok (c.ex 26 (t := (fun K => xtyB K (He.ga K "BadProgram"))) rfl), He.noat_ok (c.a.fact 31 (f := .noat "BadProgram" "what") rfl), F⟩
    · obtain ⟨fd, F⟩ := c.a.def_ 19 (d := d_x_BadRewriting) rfl
      exact ⟨_, _, fd, rfl, He.glo_ok X G (c.a.fact 32 (f := .glo "BadRewriting") rfl), oexB_ok (c.ex 27 (t := (fun K => oexB K (He.ga K "BadRewriting"))) rfl), xin_ok (c.ex 28 (t := (fun K => xinB K (He.ga K "BadRewriting"))) rfl), xty_ok (c.ex 29 (t := (fun K => xtyB K (He.ga K "BadRewriting"))) rfl), He.noat_ok (c.a.fact 33 (f := .noat "BadRewriting" "what") rfl), F⟩
    · obtain ⟨fd, F⟩ := c.a.def_ 20 (d := d_x_BadRow) rfl
      exact ⟨_, _, fd, rfl, He.glo_ok X G (c.a.fact 34 (f := .glo "BadRow") rfl), oexB_ok (c.ex 30 (t := (fun K => oexB K (He.ga K "BadRow"))) rfl), xin_ok (c.ex 31 (t := (fun K => xinB K (He.ga K "BadRow"))) rfl), xty_ok (c.ex 32 (t := (fun K => xtyB K (He.ga K "BadRow"))) rfl), He.noat_ok (c.a.fact 35 (f := .noat "BadRow" "place") rfl), F⟩
    · obtain ⟨fd, F⟩ := c.a.def_ 21 (d := d_x_BadStand) rfl
      exact ⟨_, _, fd, rfl, He.glo_ok X G (c.a.fact 36 (f := .glo "BadStand") rfl), oexB_ok (c.ex 33 (t := (fun K => oexB K (He.ga K "BadStand"))) rfl), xin_ok (c.ex 34 (t := (fun K => xinB K (He.ga K "BadStand"))) rfl), xty_ok (c.ex 35 (t := (fun K => xtyB K (He.ga K "BadStand"))) rfl), He.noat_ok (c.a.fact 37 (f := .noat "BadStand" "stand") rfl), F⟩
    · obtain ⟨fd, F⟩ := c.a.def_ 22 (d := d_x_BadSteps) rfl
      exact ⟨_, _, fd, rfl, He.glo_ok X G (c.a.fact 38 (f := .glo "BadSteps") rfl), oexB_ok (c.ex 36 (t := (fun K => oexB K (He.ga K "BadSteps"))) rfl), xin_ok (c.ex 37 (t := (fun K => xinB K (He.ga K "BadSteps"))) rfl), xty_ok (c.ex 38 (t := (fun K => xtyB K (He.ga K "BadSteps"))) rfl), He.noat_ok (c.a.fact 39 (f := .noat "BadSteps" "what") rfl), He.noat_ok (c.a.fact 40 (f := .noat "BadSteps" "place") rfl), F⟩
    · obtain ⟨fd, F⟩ := c.a.def_ 23 (d := d_x_BadText) rfl
      exact ⟨_, _, fd, rfl, He.glo_ok X G (c.a.fact 41 (f := .glo "BadText") rfl), oexB_ok (c.ex 39 (t := (fun K => oexB K (He.ga K "BadText"))) rfl), xin_ok (c.ex 40 (t := (fun K => xinB K (He.ga K "BadText"))) rfl), xty_ok (c.ex 41 (t := (fun K => xtyB K (He.ga K "BadText"))) rfl), He.noat_ok (c.a.fact 42 (f := .noat "BadText" "at") rfl), He.noat_ok (c.a.fact 43 (f := .noat "BadText" "what") rfl), F⟩
    · obtain ⟨fd, F⟩ := c.a.def_ 24 (d := d_x_NoMove) rfl
      exact ⟨_, _, fd, rfl, He.glo_ok X G (c.a.fact 44 (f := .glo "NoMove") rfl), oexB_ok (c.ex 42 (t := (fun K => oexB K (He.ga K "NoMove"))) rfl), xin_ok (c.ex 43 (t := (fun K => xinB K (He.ga K "NoMove"))) rfl), xty_ok (c.ex 44 (t := (fun K => xtyB K (He.ga K "NoMove"))) rfl), He.noat_ok (c.a.fact 45 (f := .noat "NoMove" "what") rfl), F⟩
    · obtain ⟨fd, F⟩ := c.a.def_ 25 (d := d_x_NoStep) rfl
      exact ⟨_, _, fd, rfl, He.glo_ok X G (c.a.fact 46 (f := .glo "NoStep") rfl), oexB_ok (c.ex 45 (t := (fun K => oexB K (He.ga K "NoStep"))) rfl), xin_ok (c.ex 46 (t := (fun K => xinB K (He.ga K "NoStep"))) rfl), xty_ok (c.ex 47 (t := (fun K => xtyB K (He.ga K "NoStep"))) rfl), He.noat_ok (c.a.fact 47 (f := .noat "NoStep" "name") rfl), F⟩
    · obtain ⟨fd, F⟩ := c.a.def_ 26 (d := d_x_NoWay) rfl
      exact ⟨_, _, fd, rfl, He.glo_ok X G (c.a.fact 48 (f := .glo "NoWay") rfl), oexB_ok (c.ex 48 (t := (fun K => oexB K (He.ga K "NoWay"))) rfl), xin_ok (c.ex 49 (t := (fun K => xinB K (He.ga K "NoWay"))) rfl), xty_ok (c.ex 50 (t := (fun K => xtyB K (He.ga K "NoWay"))) rfl), He.noat_ok (c.a.fact 49 (f := .noat "NoWay" "stand") rfl), F⟩
    · obtain ⟨fd, F⟩ := c.a.def_ 27 (d := d_x_NoneFits) rfl
      exact ⟨_, _, fd, rfl, He.glo_ok X G (c.a.fact 50 (f := .glo "NoneFits") rfl), oexB_ok (c.ex 51 (t := (fun K => oexB K (He.ga K "NoneFits"))) rfl), xin_ok (c.ex 52 (t := (fun K => xinB K (He.ga K "NoneFits"))) rfl), xty_ok (c.ex 53 (t := (fun K => xtyB K (He.ga K "NoneFits"))) rfl), He.noat_ok (c.a.fact 51 (f := .noat "NoneFits" "place") rfl), He.noat_ok (c.a.fact 52 (f := .noat "NoneFits" "other") rfl), F⟩
    · obtain ⟨fd, F⟩ := c.a.def_ 28 (d := d_x_NotEven) rfl
      exact ⟨_, _, fd, rfl, He.glo_ok X G (c.a.fact 53 (f := .glo "NotEven") rfl), oexB_ok (c.ex 54 (t := (fun K => oexB K (He.ga K "NotEven"))) rfl), xin_ok (c.ex 55 (t := (fun K => xinB K (He.ga K "NotEven"))) rfl), xty_ok (c.ex 56 (t := (fun K => xtyB K (He.ga K "NotEven"))) rfl), He.noat_ok (c.a.fact 54 (f := .noat "NotEven" "member") rfl), F⟩
    · obtain ⟨fd, F⟩ := c.a.def_ 29 (d := d_x_NotLet) rfl
      exact ⟨_, _, fd, rfl, He.glo_ok X G (c.a.fact 55 (f := .glo "NotLet") rfl), oexB_ok (c.ex 57 (t := (fun K => oexB K (He.ga K "NotLet"))) rfl), xin_ok (c.ex 58 (t := (fun K => xinB K (He.ga K "NotLet"))) rfl), xty_ok (c.ex 59 (t := (fun K => xtyB K (He.ga K "NotLet"))) rfl), He.noat_ok (c.a.fact 56 (f := .noat "NotLet" "what") rfl), F⟩
    · obtain ⟨fd, F⟩ := c.a.def_ 30 (d := d_x_NotTest) rfl
      exact ⟨_, _, fd, rfl, He.glo_ok X G (c.a.fact 57 (f := .glo "NotTest") rfl), oexB_ok (c.ex 60 (t := (fun K => oexB K (He.ga K "NotTest"))) rfl), xin_ok (c.ex 61 (t := (fun K => xinB K (He.ga K "NotTest"))) rfl), xty_ok (c.ex 62 (t := (fun K => xtyB K (He.ga K "NotTest"))) rfl), He.noat_ok (c.a.fact 58 (f := .noat "NotTest" "name") rfl), F⟩
    · obtain ⟨fd, F⟩ := c.a.def_ 31 (d := d_x_Spoilt) rfl
      exact ⟨_, _, fd, rfl, He.glo_ok X G (c.a.fact 59 (f := .glo "Spoilt") rfl), oexB_ok (c.ex 63 (t := (fun K => oexB K (He.ga K "Spoilt"))) rfl), xin_ok (c.ex 64 (t := (fun K => xinB K (He.ga K "Spoilt"))) rfl), xty_ok (c.ex 65 (t := (fun K => xtyB K (He.ga K "Spoilt"))) rfl), He.noat_ok (c.a.fact 60 (f := .noat "Spoilt" "place") rfl), F⟩
    · obtain ⟨fd, F⟩ := c.a.def_ 32 (d := d_x_TooMany) rfl
      exact ⟨_, _, fd, rfl, He.glo_ok X G (c.a.fact 61 (f := .glo "TooMany") rfl), oexB_ok (c.ex 66 (t := (fun K => oexB K (He.ga K "TooMany"))) rfl), xin_ok (c.ex 67 (t := (fun K => xinB K (He.ga K "TooMany"))) rfl), xty_ok (c.ex 68 (t := (fun K => xtyB K (He.ga K "TooMany"))) rfl), He.noat_ok (c.a.fact 62 (f := .noat "TooMany" "most") rfl), F⟩
    · exact excC_of X G (c.a.fact 63 (f := .glo "BadKind") rfl) (c.a.fact 64 (f := .exc "BadKind") rfl)
    · exact excC_of X G (c.a.fact 65 (f := .glo "BadLot") rfl) (c.a.fact 66 (f := .exc "BadLot") rfl)
    · exact excC_of X G (c.a.fact 67 (f := .glo "BadManner") rfl) (c.a.fact 68 (f := .exc "BadManner") rfl)
    · exact excC_of X G (c.a.fact 69 (f := .glo "BadMost") rfl) (c.a.fact 70 (f := .exc "BadMost") rfl)
    · exact excC_of X G (c.a.fact 71 (f := .glo "BadSide") rfl) (c.a.fact 72 (f := .exc "BadSide") rfl)
    · exact excC_of X G (c.a.fact 73 (f := .glo "BadStands") rfl) (c.a.fact 74 (f := .exc "BadStands") rfl)
    · exact excC_of X G (c.a.fact 75 (f := .glo "CheckerError") rfl) (c.a.fact 76 (f := .exc "CheckerError") rfl)
    · exact excC_of X G (c.a.fact 77 (f := .glo "NoCounter") rfl) (c.a.fact 78 (f := .exc "NoCounter") rfl)
    · exact excC_of X G (c.a.fact 79 (f := .glo "NoDeed") rfl) (c.a.fact 80 (f := .exc "NoDeed") rfl)
    · exact excC_of X G (c.a.fact 81 (f := .glo "NoMember") rfl) (c.a.fact 82 (f := .exc "NoMember") rfl)
    · exact excC_of X G (c.a.fact 83 (f := .glo "NotAgain") rfl) (c.a.fact 84 (f := .exc "NotAgain") rfl)
    · exact excC_of X G (c.a.fact 85 (f := .glo "NotAll") rfl) (c.a.fact 86 (f := .exc "NotAll") rfl)
    · exact excC_of X G (c.a.fact 87 (f := .glo "UnlikeStands") rfl) (c.a.fact 88 (f := .exc "UnlikeStands") rfl)
    · exact xfsB_ok (c.ex 69 (t := (fun K => xfsB K (He.ga K) xn_at "at")) rfl)
    · exact xfsB_ok (c.ex 70 (t := (fun K => xfsB K (He.ga K) xn_index "index")) rfl)
    · exact xfsB_ok (c.ex 71 (t := (fun K => xfsB K (He.ga K) xn_member "member")) rfl)
    · exact xfsB_ok (c.ex 72 (t := (fun K => xfsB K (He.ga K) xn_most "most")) rfl)
    · exact xfsB_ok (c.ex 73 (t := (fun K => xfsB K (He.ga K) xn_name "name")) rfl)
    · exact xfsB_ok (c.ex 74 (t := (fun K => xfsB K (He.ga K) xn_number "number")) rfl)
    · exact xfsB_ok (c.ex 75 (t := (fun K => xfsB K (He.ga K) xn_other "other")) rfl)
    · exact xfsB_ok (c.ex 76 (t := (fun K => xfsB K (He.ga K) xn_place "place")) rfl)
    · exact xfsB_ok (c.ex 77 (t := (fun K => xfsB K (He.ga K) xn_stand "stand")) rfl)
    · exact xfsB_ok (c.ex 78 (t := (fun K => xfsB K (He.ga K) xn_what "what")) rfl)
    · exact xfsB_ok (c.ex 79 (t := (fun K => xfsB K (He.ga K) xn_word "word")) rfl)
    · exact ⟨_, He.glo_ok X G (c.a.fact 9 (f := .glo "BadCells") rfl), ixB_ok (c.ex 80 (t := (fun K => xcsB K (He.ga K) xnS)) rfl) (c.ex 81 (t := (fun K => ixB K (He.ga K) (.ref (He.ga K "BadCells")) xnS xs_BadCells)) rfl)⟩
    · exact ⟨_, He.glo_ok X G (c.a.fact 12 (f := .glo "BadDemand") rfl), ixB_ok (c.ex 80 (t := (fun K => xcsB K (He.ga K) xnS)) rfl) (c.ex 82 (t := (fun K => ixB K (He.ga K) (.ref (He.ga K "BadDemand")) xnS xs_BadDemand)) rfl)⟩
    · exact ⟨_, He.glo_ok X G (c.a.fact 14 (f := .glo "BadEdit") rfl), ixB_ok (c.ex 80 (t := (fun K => xcsB K (He.ga K) xnS)) rfl) (c.ex 83 (t := (fun K => ixB K (He.ga K) (.ref (He.ga K "BadEdit")) xnS xs_BadEdit)) rfl)⟩
    · exact ⟨_, He.glo_ok X G (c.a.fact 17 (f := .glo "BadFact") rfl), ixB_ok (c.ex 80 (t := (fun K => xcsB K (He.ga K) xnS)) rfl) (c.ex 84 (t := (fun K => ixB K (He.ga K) (.ref (He.ga K "BadFact")) xnS xs_BadFact)) rfl)⟩
    · exact ⟨_, He.glo_ok X G (c.a.fact 19 (f := .glo "BadGlasses") rfl), ixB_ok (c.ex 80 (t := (fun K => xcsB K (He.ga K) xnS)) rfl) (c.ex 85 (t := (fun K => ixB K (He.ga K) (.ref (He.ga K "BadGlasses")) xnS xs_BadGlasses)) rfl)⟩
    · exact ⟨_, He.glo_ok X G (c.a.fact 63 (f := .glo "BadKind") rfl), ixB_ok (c.ex 80 (t := (fun K => xcsB K (He.ga K) xnS)) rfl) (c.ex 86 (t := (fun K => ixB K (He.ga K) (.ref (He.ga K "BadKind")) xnS xs_BadKind)) rfl)⟩
    · exact ⟨_, He.glo_ok X G (c.a.fact 22 (f := .glo "BadLines") rfl), ixB_ok (c.ex 80 (t := (fun K => xcsB K (He.ga K) xnS)) rfl) (c.ex 87 (t := (fun K => ixB K (He.ga K) (.ref (He.ga K "BadLines")) xnS xs_BadLines)) rfl)⟩
    · exact ⟨_, He.glo_ok X G (c.a.fact 65 (f := .glo "BadLot") rfl), ixB_ok (c.ex 80 (t := (fun K => xcsB K (He.ga K) xnS)) rfl) (c.ex 88 (t := (fun K => ixB K (He.ga K) (.ref (He.ga K "BadLot")) xnS xs_BadLot)) rfl)⟩
    · exact ⟨_, He.glo_ok X G (c.a.fact 67 (f := .glo "BadManner") rfl), ixB_ok (c.ex 80 (t := (fun K => xcsB K (He.ga K) xnS)) rfl) (c.ex 89 (t := (fun K => ixB K (He.ga K) (.ref (He.ga K "BadManner")) xnS xs_BadManner)) rfl)⟩
    · exact ⟨_, He.glo_ok X G (c.a.fact 69 (f := .glo "BadMost") rfl), ixB_ok (c.ex 80 (t := (fun K => xcsB K (He.ga K) xnS)) rfl) (c.ex 90 (t := (fun K => ixB K (He.ga K) (.ref (He.ga K "BadMost")) xnS xs_BadMost)) rfl)⟩
    · exact ⟨_, He.glo_ok X G (c.a.fact 25 (f := .glo "BadMove") rfl), ixB_ok (c.ex 80 (t := (fun K => xcsB K (He.ga K) xnS)) rfl) (c.ex 91 (t := (fun K => ixB K (He.ga K) (.ref (He.ga K "BadMove")) xnS xs_BadMove)) rfl)⟩
    · exact ⟨_, He.glo_ok X G (c.a.fact 28 (f := .glo "BadPair") rfl), ixB_ok (c.ex 80 (t := (fun K => xcsB K (He.ga K) xnS)) rfl) (c.ex 92 (t := (fun K => ixB K (He.ga K) (.ref (He.ga K "BadPair")) xnS xs_BadPair)) rfl)⟩
    · exact ⟨_, He.glo_ok X G (c.a.fact 30 (f := .glo "BadProgram") rfl), ixB_ok (c.ex 80 (t := (fun K => xcsB K (He.ga K) xnS)) rfl) (c.ex 93 (t := (fun K => ixB K (He.ga K) (.ref (He.ga K "BadProgram")) xnS xs_BadProgram)) rfl)⟩
    · exact ⟨_, He.glo_ok X G (c.a.fact 32 (f := .glo "BadRewriting") rfl), ixB_ok (c.ex 80 (t := (fun K => xcsB K (He.ga K) xnS)) rfl) (c.ex 94 (t := (fun K => ixB K (He.ga K) (.ref (He.ga K "BadRewriting")) xnS xs_BadRewriting)) rfl)⟩
    · exact ⟨_, He.glo_ok X G (c.a.fact 34 (f := .glo "BadRow") rfl), ixB_ok (c.ex 80 (t := (fun K => xcsB K (He.ga K) xnS)) rfl) (c.ex 95 (t := (fun K => ixB K (He.ga K) (.ref (He.ga K "BadRow")) xnS xs_BadRow)) rfl)⟩
    · exact ⟨_, He.glo_ok X G (c.a.fact 71 (f := .glo "BadSide") rfl), ixB_ok (c.ex 80 (t := (fun K => xcsB K (He.ga K) xnS)) rfl) (c.ex 96 (t := (fun K => ixB K (He.ga K) (.ref (He.ga K "BadSide")) xnS xs_BadSide)) rfl)⟩
    · exact ⟨_, He.glo_ok X G (c.a.fact 36 (f := .glo "BadStand") rfl), ixB_ok (c.ex 80 (t := (fun K => xcsB K (He.ga K) xnS)) rfl) (c.ex 97 (t := (fun K => ixB K (He.ga K) (.ref (He.ga K "BadStand")) xnS xs_BadStand)) rfl)⟩
    · exact ⟨_, He.glo_ok X G (c.a.fact 73 (f := .glo "BadStands") rfl), ixB_ok (c.ex 80 (t := (fun K => xcsB K (He.ga K) xnS)) rfl) (c.ex 98 (t := (fun K => ixB K (He.ga K) (.ref (He.ga K "BadStands")) xnS xs_BadStands)) rfl)⟩
    · exact ⟨_, He.glo_ok X G (c.a.fact 38 (f := .glo "BadSteps") rfl), ixB_ok (c.ex 80 (t := (fun K => xcsB K (He.ga K) xnS)) rfl) (c.ex 99 (t := (fun K => ixB K (He.ga K) (.ref (He.ga K "BadSteps")) xnS xs_BadSteps)) rfl)⟩
    · exact ⟨_, He.glo_ok X G (c.a.fact 41 (f := .glo "BadText") rfl), ixB_ok (c.ex 80 (t := (fun K => xcsB K (He.ga K) xnS)) rfl) (c.ex 100 (t := (fun K => ixB K (He.ga K) (.ref (He.ga K "BadText")) xnS xs_BadText)) rfl)⟩
    · exact ⟨_, He.glo_ok X G (c.a.fact 75 (f := .glo "CheckerError") rfl), ixB_ok (c.ex 80 (t := (fun K => xcsB K (He.ga K) xnS)) rfl) (c.ex 101 (t := (fun K => ixB K (He.ga K) (.ref (He.ga K "CheckerError")) xnS xs_CheckerError)) rfl)⟩
    · exact ⟨_, He.glo_ok X G (c.a.fact 77 (f := .glo "NoCounter") rfl), ixB_ok (c.ex 80 (t := (fun K => xcsB K (He.ga K) xnS)) rfl) (c.ex 102 (t := (fun K => ixB K (He.ga K) (.ref (He.ga K "NoCounter")) xnS xs_NoCounter)) rfl)⟩
    · exact ⟨_, He.glo_ok X G (c.a.fact 79 (f := .glo "NoDeed") rfl), ixB_ok (c.ex 80 (t := (fun K => xcsB K (He.ga K) xnS)) rfl) (c.ex 103 (t := (fun K => ixB K (He.ga K) (.ref (He.ga K "NoDeed")) xnS xs_NoDeed)) rfl)⟩
    · exact ⟨_, He.glo_ok X G (c.a.fact 81 (f := .glo "NoMember") rfl), ixB_ok (c.ex 80 (t := (fun K => xcsB K (He.ga K) xnS)) rfl) (c.ex 104 (t := (fun K => ixB K (He.ga K) (.ref (He.ga K "NoMember")) xnS xs_NoMember)) rfl)⟩
    · exact ⟨_, He.glo_ok X G (c.a.fact 44 (f := .glo "NoMove") rfl), ixB_ok (c.ex 80 (t := (fun K => xcsB K (He.ga K) xnS)) rfl) (c.ex 105 (t := (fun K => ixB K (He.ga K) (.ref (He.ga K "NoMove")) xnS xs_NoMove)) rfl)⟩
    · exact ⟨_, He.glo_ok X G (c.a.fact 46 (f := .glo "NoStep") rfl), ixB_ok (c.ex 80 (t := (fun K => xcsB K (He.ga K) xnS)) rfl) (c.ex 106 (t := (fun K => ixB K (He.ga K) (.ref (He.ga K "NoStep")) xnS xs_NoStep)) rfl)⟩
    · exact ⟨_, He.glo_ok X G (c.a.fact 48 (f := .glo "NoWay") rfl), ixB_ok (c.ex 80 (t := (fun K => xcsB K (He.ga K) xnS)) rfl) (c.ex 107 (t := (fun K => ixB K (He.ga K) (.ref (He.ga K "NoWay")) xnS xs_NoWay)) rfl)⟩
    · exact ⟨_, He.glo_ok X G (c.a.fact 50 (f := .glo "NoneFits") rfl), ixB_ok (c.ex 80 (t := (fun K => xcsB K (He.ga K) xnS)) rfl) (c.ex 108 (t := (fun K => ixB K (He.ga K) (.ref (He.ga K "NoneFits")) xnS xs_NoneFits)) rfl)⟩
    · exact ⟨_, He.glo_ok X G (c.a.fact 83 (f := .glo "NotAgain") rfl), ixB_ok (c.ex 80 (t := (fun K => xcsB K (He.ga K) xnS)) rfl) (c.ex 109 (t := (fun K => ixB K (He.ga K) (.ref (He.ga K "NotAgain")) xnS xs_NotAgain)) rfl)⟩
    · exact ⟨_, He.glo_ok X G (c.a.fact 85 (f := .glo "NotAll") rfl), ixB_ok (c.ex 80 (t := (fun K => xcsB K (He.ga K) xnS)) rfl) (c.ex 110 (t := (fun K => ixB K (He.ga K) (.ref (He.ga K "NotAll")) xnS xs_NotAll)) rfl)⟩
    · exact ⟨_, He.glo_ok X G (c.a.fact 53 (f := .glo "NotEven") rfl), ixB_ok (c.ex 80 (t := (fun K => xcsB K (He.ga K) xnS)) rfl) (c.ex 111 (t := (fun K => ixB K (He.ga K) (.ref (He.ga K "NotEven")) xnS xs_NotEven)) rfl)⟩
    · exact ⟨_, He.glo_ok X G (c.a.fact 55 (f := .glo "NotLet") rfl), ixB_ok (c.ex 80 (t := (fun K => xcsB K (He.ga K) xnS)) rfl) (c.ex 112 (t := (fun K => ixB K (He.ga K) (.ref (He.ga K "NotLet")) xnS xs_NotLet)) rfl)⟩
    · exact ⟨_, He.glo_ok X G (c.a.fact 57 (f := .glo "NotTest") rfl), ixB_ok (c.ex 80 (t := (fun K => xcsB K (He.ga K) xnS)) rfl) (c.ex 113 (t := (fun K => ixB K (He.ga K) (.ref (He.ga K "NotTest")) xnS xs_NotTest)) rfl)⟩
    · exact ⟨_, He.glo_ok X G (c.a.fact 59 (f := .glo "Spoilt") rfl), ixB_ok (c.ex 80 (t := (fun K => xcsB K (He.ga K) xnS)) rfl) (c.ex 114 (t := (fun K => ixB K (He.ga K) (.ref (He.ga K "Spoilt")) xnS xs_Spoilt)) rfl)⟩
    · exact ⟨_, He.glo_ok X G (c.a.fact 61 (f := .glo "TooMany") rfl), ixB_ok (c.ex 80 (t := (fun K => xcsB K (He.ga K) xnS)) rfl) (c.ex 115 (t := (fun K => ixB K (He.ga K) (.ref (He.ga K "TooMany")) xnS xs_TooMany)) rfl)⟩
    · exact ⟨_, He.glo_ok X G (c.a.fact 87 (f := .glo "UnlikeStands") rfl), ixB_ok (c.ex 80 (t := (fun K => xcsB K (He.ga K) xnS)) rfl) (c.ex 116 (t := (fun K => ixB K (He.ga K) (.ref (He.ga K "UnlikeStands")) xnS xs_UnlikeStands)) rfl)⟩
    · exact ixB_ok (c.ex 80 (t := (fun K => xcsB K (He.ga K) xnS)) rfl) (c.ex 117 (t := (fun K => ixB K (He.ga K) (.type "ValueError") xnS xs_ValueError)) rfl)
    · exact tab_ok fun p hp => by cases hp
    · obtain ⟨fd, F⟩ := c.a.def_ 0 (d := d__law_hand) rfl
      exact ⟨_, fd, F, He.glo_ok X G (c.a.fact 89 (f := .glo "_law_hand") rfl)⟩
    · obtain ⟨fd, F⟩ := c.a.def_ 1 (d := d__law_mixed) rfl
      exact ⟨_, fd, F, He.glo_ok X G (c.a.fact 90 (f := .glo "_law_mixed") rfl)⟩
    · obtain ⟨fd, F⟩ := c.a.def_ 2 (d := d__law_take) rfl
      exact ⟨_, fd, F, He.glo_ok X G (c.a.fact 91 (f := .glo "_law_take") rfl)⟩
    · obtain ⟨fd, F⟩ := c.a.def_ 3 (d := d__law_int) rfl
      exact ⟨_, fd, F, He.glo_ok X G (c.a.fact 92 (f := .glo "_law_int") rfl)⟩
    · obtain ⟨fd, F⟩ := c.a.def_ 4 (d := d__law_exact) rfl
      exact ⟨_, fd, F, He.glo_ok X G (c.a.fact 93 (f := .glo "_law_exact") rfl)⟩
    · obtain ⟨fd, F⟩ := c.a.def_ 5 (d := d__law_bare) rfl
      exact ⟨_, fd, F, He.glo_ok X G (c.a.fact 94 (f := .glo "_law_bare") rfl)⟩
    · obtain ⟨fd, F⟩ := c.a.def_ 6 (d := d__law_singles) rfl
      exact ⟨_, fd, F, He.glo_ok X G (c.a.fact 95 (f := .glo "_law_singles") rfl)⟩
    · obtain ⟨fd, F⟩ := c.a.def_ 7 (d := d__law_pairs) rfl
      exact ⟨_, fd, F, He.glo_ok X G (c.a.fact 96 (f := .glo "_law_pairs") rfl)⟩
    · obtain ⟨fd, F⟩ := c.a.def_ 8 (d := d__law_classes_of) rfl
      exact ⟨_, fd, F, He.glo_ok X G (c.a.fact 97 (f := .glo "_law_classes_of") rfl)⟩
    · obtain ⟨fd, F⟩ := c.a.def_ 9 (d := d_law) rfl
      exact ⟨_, fd, F, He.glo_ok X G (c.a.fact 98 (f := .glo "law") rfl)⟩
  obtain ⟨fd, F⟩ := c.a.def_ 9 (d := d_law) rfl
  have e := hfa.symm.trans (He.glo_ok X G (c.a.fact 98 (f := .glo "law") rfl))
  cases e
  have b := FunD.bindsA (ps := ["_law_script"]) F fun _ _ _ _ _ _ us hl => match us, hl with | [_], _ => rfl
  exact ⟨fd, fun s v => b s [v] rfl, fun base _ _ => law_true (ok_law T F) main⟩
end LW
open PySem PySem.W PySem.Calls PyProof.Rows
theorem LW.ends (main : ∀ ns : List Int, ns.length ≤ 63 → LW.fn_law [.scr ns] = .ret (.bl true) []) : PySem.Challenge.rw_truealarms_k61_errors_side_by_side.Holds := by
  w_on; o_law
  refine HandSHeadRun.head_any (r := OpenLaw.row PySem.Challenge.rw_truealarms_k61_errors_side_by_side) (q := view (OpenLaw.row PySem.Challenge.rw_truealarms_k61_errors_side_by_side).prog [47]) (H := LW.hk) (ob := LW.ob) (M := 9200) (loose := LW.loose) (d := HandSHeadRun.topDef (OpenLaw.row PySem.Challenge.rw_truealarms_k61_errors_side_by_side).prog 47) (kwd := []) LW.ob_eq
    (by kernel_rfl) (fun s => by kernel_rfl) LW.run (by kernel_rfl) (by kernel_rfl) (by kernel_rfl) (by rfl) (by first | assumption | decide +kernel) (by decide +kernel) ⟨rfl, rfl, rfl, rfl, rfl, by decide +kernel⟩ ?hw ?hc
  case hw => w_witness2
  case hc =>
    refine DL.end_ofW (l := PySem.Challenge.rw_truealarms_k61_errors_side_by_side) (k := 6) (x := "_law_script") rfl (by kernel_rfl) ⟨rfl, by decide, by decide⟩ fun w mg fa h Y G hmg0 => ?_
    obtain ⟨K, KX, c⟩ := Y
    have hmg : mg ("law" : PySem.Str) = some (.ref fa) := by
      have e : (HandSHeadRun.topDef (OpenLaw.row PySem.Challenge.rw_truealarms_k61_errors_side_by_side).prog 47).name = ("law" : PySem.Str) := by kernel_rfl
      rw [← e]
      exact hmg0
    obtain ⟨fd, hb, hF⟩ := LW.facts (P := (PySem.Challenge.rw_truealarms_k61_errors_side_by_side).prog) (w := w) main KX G hmg c
    exact ⟨K, fd, KX, hb, hF⟩

theorem PySem.Challenge.cw_truealarms_k61_errors_side_by_side_holds : PySem.Challenge.rw_truealarms_k61_errors_side_by_side.Holds := by
  exact LW.ends LW.main
