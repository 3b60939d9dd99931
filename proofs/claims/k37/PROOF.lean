
import PyProof.Rows.All
import Wide.All
import OpenK.AllK
import Wide.FinOn
import HandS.ForMost
import HandS.Exc
import HandS.ExcOwn
import HandS.TryOnly
import HandS.TryMany
import HandS.WordsExc
import HandS.Wide
import HandS.IsInst
import HandS.Conv
import HandS.Flow
import HandS.Style
import HandS.Deep
import HandS.TupAny
import HandS.TupLe
import HandS.Zip
import HandS.Strs
import HandS.Small
import HandS.Defaults
import KE.GoesEnum
import HandS.Head0
import HandS.Head1
import HandS.Head2
import HandS.HeadEnd
import HandS.HeadHook1
import HandS.HeadHook2
import HandS.Property
import HandS.HeadHook4
import HandS.SetFor
import HandS.SortInts
import KE.KDictList
import HandS.HeadNt
import HandS.List
import HandS.More
import HandS.Codes
import PyProof.InstNe
import KE.SortData
import HandS.ExcInit
import HandS.ExcField
import HandS.Iter
import HandS.ExcIs
import KE.DatumOrd
import HandS.HeadHook3
import KE.GoesZip
import KE.GoesMore
import KE.KDictZip
import HandS.Zip0
import HandS.Dict
import HandS.ListItems
import HandS.MakeKw
import HandS.TupMul
import HandS.Star
import HandS.Text
import PySem.Challenge.RW_truealarms_k37_whole_rewritings_told_and
set_option Elab.async false
set_option linter.all false
set_option maxRecDepth 100000
set_option maxHeartbeats 4000000
namespace DL
open PySem PySem.Spec PyProof.Rows L2

/-! ### deep values -/
inductive D where
  | non | bl (b : Bool) | int (i : Int) | str (x : Str)
  | lst (xs : List D) | tup (xs : List D)
  | dct (ks : List Key) (vs : List D)
  | ins (c : Str) (ns : List Str) (vs : List D)
  | scr (ns : List Int)
  | set (xs : List Int)
  | tpn (xs : List D)
  | rng (lo hi : Int)

/-- a set of ints at a: S its members -/
def SetI (P : Program) (w : World) (a : Addr) (S : Int → Bool) (n : Nat) : HO := .ext fun h => h.SetOf (intKind P w) a S n
/-- where the classes stand by name, the program and the world -/
structure Cw where
  f : Str → Option Addr
  P : Program
  w : World
instance : CoeFun Cw (fun _ => Str → Option Addr) := ⟨Cw.f⟩

mutual
inductive Rep (K : PySem.W.Frag) (cl : Cw) (G : Hp) : V → D → Prop
  | non : Rep K cl G .non .non
  | bl (b : Bool) : Rep K cl G (.bl b) (.bl b)
  | int (i : Int) : Rep K cl G (.int i) (.int i)
  | str (x : Str) : Rep K cl G (.str x) (.str x)
  | lst {a : Addr} {xs : List V} {ds : List D} : G a = some (.lst xs) → RepL K cl G xs ds → Rep K cl G (.ref a) (.lst ds)
  | tup {a : Addr} {xs : List V} {ds : List D} : SqT K G a xs → RepL K cl G xs ds → Rep K cl G (.ref a) (.tup ds)
  | dct {a : Addr} {ks : List Key} {xs : List V} {ds : List D} : G a = some (.dK (ks.zip xs)) → ks.length = xs.length → RepL K cl G xs ds → Rep K cl G (.ref a) (.dct ks ds)
  | ins {a C dx : Addr} {c : Str} {ns : List Str} {xs : List V} {ds : List D} : G a = some (.ins C dx (ns.zip xs)) → ns.length = xs.length → cl c = some C → RepL K cl G xs ds → Rep K cl G (.ref a) (.ins c ns ds)
  | scr {a : Addr} {ns : List Int} : SqL K G a (ns.map V.int) → Rep K cl G (.ref a) (.scr ns)
  | set {a : Addr} {xs : List Int} {S : Int → Bool} {n : Nat} : G a = some (SetI cl.P cl.w a S n) → (∀ k, S k = decide (k ∈ xs)) → Rep K cl G (.ref a) (.set xs)
  | tpn {a : Addr} {ob : Obj} {xs : List V} {ds : List D} : G a = some (.frz ob (.tup xs)) → ob.dict = none → ob.cls = .type "tuple" → RepL K cl G xs ds → Rep K cl G (.ref a) (.tpn ds)
  | rng {a : Addr} {lo hi : Int} : G a = some (.rng lo hi) → Rep K cl G (.ref a) (.rng lo hi)
inductive RepL (K : PySem.W.Frag) (cl : Cw) (G : Hp) : List V → List D → Prop
  | nil : RepL K cl G [] []
  | cons {v : V} {vs : List V} {d : D} {ds : List D} : Rep K cl G v d → RepL K cl G vs ds → RepL K cl G (v :: vs) (d :: ds)
end

def Sub (G G' : Hp) : Prop := ∀ b o, G b = some o → G' b = some o
theorem Sub.refl (G : Hp) : Sub G G := fun _ _ h => h
theorem Sub.trans {A B C : Hp} (a : Sub A B) (b : Sub B C) : Sub A C := fun c o h => b c o (a c o h)
theorem Sub.rd {G G' : Hp} (s : Sub G G') {a : Addr} {u : HO} (h : Rd G a u) : Rd G' a u := by
  rcases h with h | ⟨o, h⟩
  · exact .inl (s _ _ h)
  · exact .inr ⟨o, s _ _ h⟩
theorem Sub.sqL {K : PySem.W.Frag} {G G' : Hp} (s : Sub G G') {a : Addr} {xs : List V} (h : SqL K G a xs) : SqL K G' a xs := by
  rcases h with h | h
  · exact .inl (s.rd h)
  · exact .inr h
theorem Sub.sqT {K : PySem.W.Frag} {G G' : Hp} (s : Sub G G') {a : Addr} {xs : List V} (h : SqT K G a xs) : SqT K G' a xs := by
  rcases h with h | h
  · exact .inl (s.rd h)
  · exact .inr h
mutual
theorem Rep.mono {K : PySem.W.Frag} {cl : Cw} {G G' : Hp} (s : Sub G G') : ∀ {d : D} {v : V}, Rep K cl G v d → Rep K cl G' v d
  | .non, _, h => by cases h; exact .non
  | .bl b, _, h => by cases h; exact .bl b
  | .int i, _, h => by cases h; exact .int i
  | .str x, _, h => by cases h; exact .str x
  | .lst ds, _, h => by
    cases h with
    | lst h1 h2 => exact .lst (s _ _ h1) (RepL.mono s h2)
  | .tup ds, _, h => by
    cases h with
    | tup h1 h2 => exact .tup (s.sqT h1) (RepL.mono s h2)
  | .dct ks ds, _, h => by
    cases h with
    | dct h1 hl h2 => exact .dct (s _ _ h1) hl (RepL.mono s h2)
  | .ins c ns ds, _, h => by
    cases h with
    | ins h1 hl hc h2 => exact .ins (s _ _ h1) hl hc (RepL.mono s h2)
  | .scr ns, _, h => by
    cases h with
    | scr h1 => exact .scr (s.sqL h1)
  | .set xs, _, h => by
    cases h with
    | set h1 h2 => exact .set (s _ _ h1) h2
  | .tpn ds, _, h => by
    cases h with
    | tpn h1 hd hc h2 => exact .tpn (s _ _ h1) hd hc (RepL.mono s h2)
  | .rng lo hi, _, h => by
    cases h with
    | rng h1 => exact .rng (s _ _ h1)
theorem RepL.mono {K : PySem.W.Frag} {cl : Cw} {G G' : Hp} (s : Sub G G') : ∀ {ds : List D} {vs : List V}, RepL K cl G vs ds → RepL K cl G' vs ds
  | [], _, h => by cases h; exact .nil
  | d :: ds, _, h => by
    cases h with
    | cons h1 h2 => exact .cons (Rep.mono s h1) (RepL.mono s h2)
end
section
variable {K : PySem.W.Frag} {cl : Cw} {G : Hp}
theorem RepL.length : ∀ {ds : List D} {vs : List V}, RepL K cl G vs ds → vs.length = ds.length
  | [], _, h => by cases h; rfl
  | d :: ds, _, h => by
    cases h with
    | cons h1 h2 => exact congrArg (· + 1) h2.length
theorem RepL.get : ∀ {ds : List D} {vs : List V}, RepL K cl G vs ds → ∀ {i : Nat} {d : D}, ds[i]? = some d → ∃ v, vs[i]? = some v ∧ Rep K cl G v d
  | [], _, h, i, d, e => by simp at e
  | d :: ds, _, h, i, e, q => by
    cases h with
    | cons h1 h2 =>
      cases i with
      | zero =>
        have z : d = e := by simpa using q
        subst z
        exact ⟨_, rfl, h1⟩
      | succ i => exact h2.get (i := i) (by simpa using q)
theorem RepL.append : ∀ {ds es : List D} {vs us : List V}, RepL K cl G vs ds → RepL K cl G us es → RepL K cl G (vs ++ us) (ds ++ es)
  | [], _, _, _, h, h' => by cases h; exact h'
  | d :: ds, _, _, _, h, h' => by
    cases h with
    | cons h1 h2 => exact .cons h1 (h2.append h')
theorem RepL.set : ∀ {ds : List D} {vs : List V}, RepL K cl G vs ds → ∀ {v : V} {d : D} (i : Nat), Rep K cl G v d → RepL K cl G (vs.set i v) (ds.set i d)
  | [], _, h, v, d, i, r => by cases h; exact .nil
  | e :: ds, _, h, v, d, i, r => by
    cases h with
    | cons h1 h2 =>
      cases i with
      | zero => exact .cons r h2
      | succ i => exact .cons h1 (h2.set i r)
theorem RepL.take : ∀ {ds : List D} {vs : List V}, RepL K cl G vs ds → ∀ (n : Nat), RepL K cl G (vs.take n) (ds.take n)
  | [], _, h, n => by cases h; simp only [List.take_nil]; exact .nil
  | e :: ds, _, h, n => by
    cases h with
    | cons h1 h2 =>
      cases n with
      | zero => exact .nil
      | succ n => exact .cons h1 (h2.take n)
theorem RepL.drop : ∀ {ds : List D} {vs : List V}, RepL K cl G vs ds → ∀ (n : Nat), RepL K cl G (vs.drop n) (ds.drop n)
  | [], _, h, n => by cases h; simp only [List.drop_nil]; exact .nil
  | e :: ds, _, h, n => by
    cases h with
    | cons h1 h2 =>
      cases n with
      | zero => exact .cons h1 h2
      | succ n => exact h2.drop n
theorem RepL.ints : ∀ {ns : List Int} {vs : List V}, RepL K cl G vs (ns.map D.int) → vs = ns.map V.int
  | [], _, h => by cases h; rfl
  | n :: ns, _, h => by
    cases h with
    | cons h1 h2 =>
      cases h1
      rw [RepL.ints h2]; rfl
theorem RepL.of_ints : ∀ (ns : List Int), RepL K cl G (ns.map V.int) (ns.map D.int)
  | [] => .nil
  | n :: ns => .cons (.int n) (RepL.of_ints ns)
end

/-! ### slots -/
inductive Sl where
  | un | val (d : D) | own (d : D) | rf (d : D) | exc (c : Str) (ns : List Str) (ds : List D)
abbrev DEnv := List Sl

/-- what an owned object at a holds -/
def Own (K : PySem.W.Frag) (cl : Cw) (H G : Hp) (a : Addr) : D → Prop
  | .lst ds => ∃ xs, H a = some (.lst xs) ∧ RepL K cl G xs ds
  | .dct ks ds => ∃ xs, H a = some (.dK (ks.zip xs)) ∧ ks.length = xs.length ∧ RepL K cl G xs ds
  | .ins c ns ds => ∃ C dx xs, H a = some (.ins C dx (ns.zip xs)) ∧ ns.length = xs.length ∧ cl c = some C ∧ RepL K cl G xs ds
  | _ => False
theorem Own.ex {K : PySem.W.Frag} {cl : Cw} {H G : Hp} {a : Addr} {d : D} (h : Own K cl H G a d) : ∃ o, H a = some o := by
  cases d with
  | lst ds => obtain ⟨xs, e, _⟩ := h; exact ⟨_, e⟩
  | dct ks ds => obtain ⟨xs, e, _⟩ := h; exact ⟨_, e⟩
  | ins c ns ds => obtain ⟨C, dx, xs, e, _⟩ := h; exact ⟨_, e⟩
  | _ => exact h.elim
theorem Own.mono {K : PySem.W.Frag} {cl : Cw} {H H' G G' : Hp} {a : Addr} {d : D} (h : Own K cl H G a d) (s : Sub G G') (e : ∀ o, H a = some o → H' a = some o) : Own K cl H' G' a d := by
  cases d with
  | lst ds => obtain ⟨xs, q, r⟩ := h; exact ⟨xs, e _ q, r.mono s⟩
  | dct ks ds => obtain ⟨xs, q, l, r⟩ := h; exact ⟨xs, e _ q, l, r.mono s⟩
  | ins c ns ds => obtain ⟨C, dx, xs, q, l, c, r⟩ := h; exact ⟨C, dx, xs, e _ q, l, c, r.mono s⟩
  | _ => exact h.elim

/-- what a slot says: hx is the exception at hand (its address, its own dict) -/
def SlOk (K : PySem.W.Frag) (cl : Cw) (hx : Addr × Option Addr) (H0 H G : Hp) (x : Option V) : Sl → Prop
  | .un => True
  | .val d => ∃ v, x = some v ∧ Rep K cl G v d
  | .own d => ∃ a, x = some (.ref a) ∧ G a = none ∧ H0 a = none ∧ Own K cl H G a d
  | .rf d => ∃ a, x = some (.ref a) ∧ G a = none ∧ Own K cl H G a d
  | .exc c ns ds => x = some (.ref hx.1) ∧ ((ns = [] ∧ ds = [] ∧ hx.2 = none) ∨ ∃ dd xs vs, hx.2 = some dd ∧ G dd = some (.xd xs) ∧ RepL K cl G vs ds ∧ ns.length = vs.length ∧ (∀ n v, (n, v) ∈ ns.zip vs → xs.lookup n = some v) ∧ ns ≠ [])
def isO : Sl → Bool
  | .own _ => true
  | .rf _ => true
  | _ => false

/-- the state: R the by-reference parameters (slot, address), H0 G0 the entry -/
structure Ok (K : PySem.W.Frag) (cl : Cw) (hx : Addr × Option Addr) (R : List (Nat × Addr)) (H0 G0 H G : Hp) (σ : L2.St) (δ : DEnv) : Prop where
  len : σ.length = δ.length
  sub : Sub G H
  ext : Sub G0 G
  new : ∀ b o, G b = some o → G0 b = some o ∨ H0 b = none
  kept : ∀ b o, H0 b = some o → (∀ p ∈ R, p.2 ≠ b) → H b = some o
  rfree : ∀ p ∈ R, H0 p.2 ≠ none ∧ G p.2 = none
  sl : ∀ (i : Nat) (s : Sl) (x : Option V), δ[i]? = some s → σ[i]? = some x → SlOk K cl hx H0 H G x s
  sep : ∀ (i j : Nat) (s t : Sl) (a : Addr), δ[i]? = some s → δ[j]? = some t → isO s = true → isO t = true → σ[i]? = some (some (.ref a)) → σ[j]? = some (some (.ref a)) → i = j
  refs : ∀ p ∈ R, ∃ d, δ[p.1]? = some (.rf d) ∧ σ[p.1]? = some (some (.ref p.2))
  rfs : ∀ (i : Nat) (d : D), δ[i]? = some (.rf d) → ∃ p ∈ R, p.1 = i

/-- new objects alone: nothing that is tracked changes -/
structure Grow (H G H' G' : Hp) : Prop where
  hk : Sub H H'
  gk : Sub G G'
  sub : Sub G' H'
  gn : ∀ b o, G' b = some o → G b = some o ∨ H b = none
theorem Grow.refl {H G : Hp} (s : Sub G H) : Grow H G H G := ⟨.refl H, .refl G, s, fun _ _ h => .inl h⟩
theorem Grow.trans {H G H1 G1 H2 G2 : Hp} (a : Grow H G H1 G1) (b : Grow H1 G1 H2 G2) : Grow H G H2 G2 := by
  refine ⟨a.hk.trans b.hk, a.gk.trans b.gk, b.sub, fun c o h => ?_⟩
  rcases b.gn c o h with h | h
  · exact a.gn c o h
  · refine .inr ?_
    cases e : H c with
    | none => rfl
    | some u => rw [a.hk c u e] at h; cases h
/-- a new frozen object -/
theorem Grow.froze {H G : Hp} (s : Sub G H) {p : Addr} (np : H p = none) (o : HO) : Grow H G (upd H p o) (upd G p o) := by
  have ng : G p = none := by
    cases e : G p with
    | none => rfl
    | some u => rw [s p u e] at np; cases np
  refine ⟨fun b u e => by rw [upd_ne (ne_of_none e np)]; exact e, fun b u e => by rw [upd_ne (ne_of_none e ng)]; exact e, fun b u e => ?_, fun b u e => ?_⟩
  · by_cases h : b = p
    · subst h; rw [upd_same] at e ⊢; exact e
    · rw [upd_ne h] at e ⊢; exact s b u e
  · by_cases h : b = p
    · subst h; exact .inr np
    · rw [upd_ne h] at e; exact .inl e
/-- a new object that is not frozen -/
theorem Grow.fresh {H G : Hp} (s : Sub G H) {p : Addr} (np : H p = none) (o : HO) : Grow H G (upd H p o) G :=
  ⟨fun b u e => by rw [upd_ne (ne_of_none e np)]; exact e, .refl G, fun b u e => by rw [upd_ne (ne_of_none (s b u e) np)]; exact s b u e, fun b u e => .inl e⟩

section
variable {K : PySem.W.Frag} {cl : Cw} {hx : Addr × Option Addr} {R : List (Nat × Addr)} {H0 G0 H G H' G' : Hp} {σ : L2.St} {δ : DEnv}
theorem SlOk.ex {x : Option V} {s : Sl} (h : SlOk K cl hx H0 H G x s) (o : isO s = true) : ∃ a d, x = some (.ref a) ∧ G a = none ∧ Own K cl H G a d ∧ (s = .own d ∨ s = .rf d) := by
  cases s with
  | own d => obtain ⟨a, e, g, _, w⟩ := h; exact ⟨a, d, e, g, w, .inl rfl⟩
  | rf d => obtain ⟨a, e, g, w⟩ := h; exact ⟨a, d, e, g, w, .inr rfl⟩
  | un => cases o
  | val d => cases o
  | exc c ns ds => cases o
theorem SlOk.grow {x : Option V} {s : Sl} (h : SlOk K cl hx H0 H G x s) (g : Grow H G H' G') : SlOk K cl hx H0 H' G' x s := by
  have keep : ∀ {a d}, G a = none → Own K cl H G a d → G' a = none := fun {a d} ga w => by
    obtain ⟨o, ho⟩ := w.ex
    cases e : G' a with
    | none => rfl
    | some u =>
      rcases g.gn a u e with z | z
      · rw [ga] at z; cases z
      · rw [ho] at z; cases z
  cases s with
  | un => trivial
  | val d => obtain ⟨v, e, r⟩ := h; exact ⟨v, e, r.mono g.gk⟩
  | own d => obtain ⟨a, e, ga, h0, w⟩ := h; exact ⟨a, e, keep ga w, h0, w.mono g.gk fun o => g.hk a o⟩
  | rf d => obtain ⟨a, e, ga, w⟩ := h; exact ⟨a, e, keep ga w, w.mono g.gk fun o => g.hk a o⟩
  | exc c ns ds =>
    obtain ⟨e, h⟩ := h
    rcases h with h | ⟨dd, xs, vs, e1, e2, e3, e4⟩
    · exact ⟨e, .inl h⟩
    · exact ⟨e, .inr ⟨dd, xs, vs, e1, g.gk _ _ e2, e3.mono g.gk, e4⟩⟩
theorem Ok.grow (k : Ok K cl hx R H0 G0 H G σ δ) (g : Grow H G H' G') : Ok K cl hx R H0 G0 H' G' σ δ where
  len := k.len
  sub := g.sub
  ext := k.ext.trans g.gk
  new := fun b o e => by
    rcases g.gn b o e with z | z
    · exact k.new b o z
    · by_cases hb : ∃ p ∈ R, p.2 = b
      · obtain ⟨p, hp, rfl⟩ := hb
        obtain ⟨d, e1, e2⟩ := k.refs p hp
        obtain ⟨a, q, _, w⟩ := k.sl _ _ _ e1 e2
        cases q
        obtain ⟨u, hu⟩ := w.ex
        rw [z] at hu; cases hu
      · refine .inr ?_
        cases q : H0 b with
        | none => rfl
        | some u =>
          have := k.kept b u q fun p hp e => hb ⟨p, hp, e⟩
          rw [z] at this; cases this
  kept := fun b o e hR => g.hk b o (k.kept b o e hR)
  rfree := fun p hp => by
    refine ⟨(k.rfree p hp).1, ?_⟩
    obtain ⟨d, e1, e2⟩ := k.refs p hp
    obtain ⟨a, q, ga, w⟩ := (k.sl _ _ _ e1 e2).grow g
    cases q
    exact ga
  sl := fun i s x e1 e2 => (k.sl i s x e1 e2).grow g
  sep := k.sep
  refs := k.refs
  rfs := k.rfs
end
end DL

set_option maxRecDepth 100000
set_option maxHeartbeats 4000000
namespace DL
open PySem PySem.Spec PyProof.Rows L2

/-! ### outcomes -/
inductive EO (α : Type) where
  | ok (a : α) (δ : DEnv) | ex (c : Str) (ns : List Str) (ds : List D) (δ : DEnv) | st
def EO.bind {α β : Type} (o : EO α) (k : α → DEnv → EO β) : EO β := match o with
  | .ok a δ => k a δ
  | .ex c ns ds δ => .ex c ns ds δ
  | .st => .st
abbrev DE := DEnv → EO D
abbrev DT := DEnv → EO Bool
inductive AV where
  | v (d : D) | r (j : Nat)
abbrev DA := DEnv → EO (List AV)
inductive SO where
  | nx (δ : DEnv) | rt (d : D) (δ : DEnv) | ro (d : D) (δ : DEnv) | bk (δ : DEnv) | ct (δ : DEnv) | ex (c : Str) (ns : List Str) (ds : List D) (δ : DEnv) | st
abbrev DS := DEnv → SO

/-- an exception of the class named c with these fields -/
def XOk (K : PySem.W.Frag) (cl : Cw) (G : Hp) (c : Str) (ns : List Str) (ds : List D) (cls : Value) (dd : Option Addr) : Prop :=
  ∃ C, cls = .ref C ∧ cl c = some C ∧ ((ns = [] ∧ ds = [] ∧ dd = none) ∨ ∃ dx xs vs, dd = some dx ∧ G dx = some (.xd xs) ∧ RepL K cl G vs ds ∧ ns.length = vs.length ∧ (∀ n v, (n, v) ∈ ns.zip vs → xs.lookup n = some v) ∧ ns ≠ [])
theorem XOk.mono {K : PySem.W.Frag} {cl : Cw} {G G' : Hp} {c : Str} {ns : List Str} {ds : List D} {cls : Value} {dd : Option Addr} (h : XOk K cl G c ns ds cls dd) (s : Sub G G') : XOk K cl G' c ns ds cls dd := by
  obtain ⟨C, e, q, h⟩ := h
  refine ⟨C, e, q, ?_⟩
  rcases h with h | ⟨dx, xs, vs, e1, e2, e3, e4, e5⟩
  · exact .inl h
  · exact .inr ⟨dx, xs, vs, e1, s _ _ e2, e3.mono s, e4, e5⟩

/-- the fixed part of a state -/
structure Fx where
  K : PySem.W.Frag
  cl : Cw
  hx : Addr × Option Addr
  R : List (Nat × Addr)
  H0 : Hp
  G0 : Hp
abbrev Fx.Ok (f : Fx) (H G : Hp) (σ : L2.St) (δ : DEnv) : Prop := DL.Ok f.K f.cl f.hx f.R f.H0 f.G0 H G σ δ

def EPost {α β : Type} (f : Fx) (W : WX) (σ : L2.St) (rel : Hp → β → α → Prop) (G : Hp) (o : EO α) (Q : β → Hp → Prop) : Prop := match o with
  | .ok a δ => ∀ b H' G', Sub G G' → f.Ok H' G' σ δ → rel G' b a → Q b H'
  | .ex c ns ds δ => ∀ cls dd H' G', Sub G G' → f.Ok H' G' σ δ → XOk f.K f.cl G' c ns ds cls dd → W cls dd σ H'
  | .st => False
theorem EPost.weak {α β : Type} {f : Fx} {W : WX} {σ : L2.St} {rel : Hp → β → α → Prop} {G G' : Hp} {o : EO α} {Q : β → Hp → Prop} (s : Sub G G') (h : EPost f W σ rel G o Q) : EPost f W σ rel G' o Q := by
  cases o with
  | ok a δ => exact fun b H' G'' s' k r => h b H' G'' (s.trans s') k r
  | ex c ns ds δ => exact fun cls dd H' G'' s' k x => h cls dd H' G'' (s.trans s') k x
  | st => exact h
theorem EPost.imp {α β : Type} {f : Fx} {W : WX} {σ : L2.St} {rel : Hp → β → α → Prop} {G : Hp} {o : EO α} {Q Q' : β → Hp → Prop} (h : EPost f W σ rel G o Q) (q : ∀ b H, Q b H → Q' b H) : EPost f W σ rel G o Q' := by
  cases o with
  | ok a δ => exact fun b H' G'' s' k r => q _ _ (h b H' G'' s' k r)
  | ex c ns ds δ => exact h
  | st => exact h
/-- one after the other -/
theorem EPost.bind {α β γ ε : Type} {f : Fx} {W : WX} {σ : L2.St} {rel : Hp → β → α → Prop} {rel2 : Hp → ε → γ → Prop} {G : Hp} {o : EO α} {k : α → DEnv → EO γ} {Q : ε → Hp → Prop} (h : EPost f W σ rel2 G (o.bind k) Q) :
    EPost f W σ rel G o (fun b H1 => ∃ G1 a δ1, Sub G G1 ∧ f.Ok H1 G1 σ δ1 ∧ rel G1 b a ∧ EPost f W σ rel2 G1 (k a δ1) Q) := by
  cases o with
  | ok a δ => exact fun b H' G' s k' r => ⟨G', a, δ, s, k', r, EPost.weak s h⟩
  | ex c ns ds δ => exact h
  | st => exact h
def relD (K : PySem.W.Frag) (cl : Cw) (G : Hp) (v : V) (d : D) : Prop := Rep K cl G v d
def relB (_ : Hp) (a b : Bool) : Prop := a = b
def AvOk (K : PySem.W.Frag) (cl : Cw) (σ : L2.St) (G : Hp) (v : V) : AV → Prop
  | .v d => Rep K cl G v d
  | .r j => σ[j]? = some (some v)
inductive AvL (K : PySem.W.Frag) (cl : Cw) (σ : L2.St) (G : Hp) : List V → List AV → Prop
  | nil : AvL K cl σ G [] []
  | cons {v : V} {vs : List V} {a : AV} {as : List AV} : AvOk K cl σ G v a → AvL K cl σ G vs as → AvL K cl σ G (v :: vs) (a :: as)
theorem AvOk.mono {K : PySem.W.Frag} {cl : Cw} {σ : L2.St} {G G' : Hp} {v : V} {a : AV} (s : Sub G G') (h : AvOk K cl σ G v a) : AvOk K cl σ G' v a := by
  cases a with
  | v d => exact Rep.mono s h
  | r j => exact h
theorem AvL.mono {K : PySem.W.Frag} {cl : Cw} {σ : L2.St} {G G' : Hp} (s : Sub G G') : ∀ {vs : List V} {as : List AV}, AvL K cl σ G vs as → AvL K cl σ G' vs as
  | _, _, .nil => .nil
  | _, _, .cons h t => .cons (h.mono s) (AvL.mono s t)

/-! ### the judgements -/
/-- where one stands: the wish, the classes by name, the exception at hand -/
structure Cf where
  W : WX
  cl : Cw
  hx : Addr × Option Addr
abbrev Cf.fx (c : Cf) (X : Cx) (R : List (Nat × Addr)) (H0 G0 : Hp) : Fx := ⟨X.K, c.cl, c.hx, R, H0, G0⟩
def tE (X : Cx) (e : Expr) : TE := fun σ H Q => ∀ pins s, Inv X pins σ H s → wpAny (model X.prog X.w) X.A (eval e X.env) (EP X pins σ Q) X.xe s
def tT (X : Cx) (e : Expr) : TT := fun σ H Q => ∀ pins s, Inv X pins σ H s → wpAny (model X.prog X.w) X.A (isTrue e X.env (eval e X.env)) (TP X pins σ Q) X.xe s
def tW (X : Cx) (e : Expr) : TT := fun σ H Q => ∀ whole pins s, Inv X pins σ H s → wpAny (model X.prog X.w) X.A (isTrue e X.env whole) (TP X pins σ Q) X.xe s
def tA (X : Cx) (es : List Expr) : TA := fun σ H Q => ∀ pos pins s, Inv X pins σ H s → wpAny (model X.prog X.w) X.A (spliced (backTo pos (starEach es X.env))) (AP X pins σ Q) X.xe s
def tS (X : Cx) (st : Stmt) : TS := fun D σ H => ∀ pins s, Inv X pins σ H s → wpAny (model X.prog X.w) X.A (exec st X.env) (SP X pins D) X.xe s
def tSs (X : Cx) (st : List Stmt) : TS := fun D σ H => ∀ pins s, Inv X pins σ H s → wpAny (model X.prog X.w) X.A (execs st X.env) (SP X pins D) X.xe s
theorem peS (X : Cx) (e : Expr) : PE X e (tE X e) := ⟨fun pins s _ _ _ I h => h pins s I⟩
theorem ptS (X : Cx) (e : Expr) : PT X e (tT X e) := ⟨fun pins s _ _ _ I h => h pins s I⟩
theorem pwS (X : Cx) (e : Expr) : PW X e (tW X e) := ⟨fun wh pins s _ _ _ I h => h wh pins s I⟩
theorem paS (X : Cx) (es : List Expr) : PA X es (tA X es) := ⟨fun pos pins s _ _ _ I h => h pos pins s I⟩
theorem psS (X : Cx) (st : Stmt) : PS X st (tS X st) := ⟨fun pins s _ _ _ I h => h pins s I⟩
theorem pssS (X : Cx) (st : List Stmt) : PSs X st (tSs X st) := ⟨fun pins s _ _ _ I h => h pins s I⟩

def JE (c : Cf) (X : Cx) (e : Expr) (F : DE) : Prop := ∀ (R : List (Nat × Addr)) (H0 G0 H G : Hp) (σ : L2.St) (δ : DEnv) (Q : VK), (c.fx X R H0 G0).Ok H G σ δ → EPost (c.fx X R H0 G0) c.W σ (relD X.K c.cl) G (F δ) Q → tE X e σ H Q
def JT (c : Cf) (X : Cx) (e : Expr) (F : DT) : Prop := ∀ (R : List (Nat × Addr)) (H0 G0 H G : Hp) (σ : L2.St) (δ : DEnv) (Q : Bool → Hp → Prop), (c.fx X R H0 G0).Ok H G σ δ → EPost (c.fx X R H0 G0) c.W σ relB G (F δ) Q → tT X e σ H Q
def JW (c : Cf) (X : Cx) (e : Expr) (F : DT) : Prop := ∀ (R : List (Nat × Addr)) (H0 G0 H G : Hp) (σ : L2.St) (δ : DEnv) (Q : Bool → Hp → Prop), (c.fx X R H0 G0).Ok H G σ δ → EPost (c.fx X R H0 G0) c.W σ relB G (F δ) Q → tW X e σ H Q
def JA (c : Cf) (X : Cx) (es : List Expr) (F : DA) : Prop := ∀ (R : List (Nat × Addr)) (H0 G0 H G : Hp) (σ : L2.St) (δ : DEnv) (Q : List V → Hp → Prop), (c.fx X R H0 G0).Ok H G σ δ → EPost (c.fx X R H0 G0) c.W σ (AvL X.K c.cl σ) G (F δ) Q → tA X es σ H Q

/-! ### slots read -/
section
variable {K : PySem.W.Frag} {cl : Cw} {hx : Addr × Option Addr} {R : List (Nat × Addr)} {H0 G0 H G : Hp} {σ : L2.St} {δ : DEnv}
theorem Ok.at (k : Ok K cl hx R H0 G0 H G σ δ) {i : Nat} {s : Sl} (e : δ[i]? = some s) : ∃ x, σ[i]? = some x ∧ SlOk K cl hx H0 H G x s := by
  have hi : i < σ.length := by
    rw [k.len]
    exact (List.getElem?_eq_some_iff.mp e).1
  exact ⟨σ[i], List.getElem?_eq_getElem hi, k.sl i s _ e (List.getElem?_eq_getElem hi)⟩
theorem Own.froze {a : Addr} {d : D} (g : Sub G H) (ga : G a = none) (w : Own K cl H G a d) : ∃ o, H a = some o ∧ Rep K cl (upd G a o) (.ref a) d := by
  have m : ∀ o, Sub G (upd G a o) := fun o b u e => by rw [upd_ne (ne_of_none e ga)]; exact e
  cases d with
  | lst ds => obtain ⟨xs, e, r⟩ := w; exact ⟨_, e, .lst upd_same (r.mono (m _))⟩
  | dct ks ds => obtain ⟨xs, e, l, r⟩ := w; exact ⟨_, e, .dct upd_same l (r.mono (m _))⟩
  | ins c ns ds => obtain ⟨C, dx, xs, e, l, q, r⟩ := w; exact ⟨_, e, .ins upd_same l q (r.mono (m _))⟩
  | _ => exact w.elim
/-- an owned object is frozen -/
theorem Ok.freeze (k : Ok K cl hx R H0 G0 H G σ δ) {i : Nat} {d : D} (e : δ[i]? = some (.own d)) :
    ∃ a G', σ[i]? = some (some (.ref a)) ∧ Sub G G' ∧ Rep K cl G' (.ref a) d ∧ Ok K cl hx R H0 G0 H G' σ (δ.set i (.val d)) := by
  obtain ⟨x, ex, a, rfl, ga, h0, w⟩ := k.at e
  obtain ⟨o, ho, r⟩ := w.froze k.sub ga
  have hi : i < δ.length := (List.getElem?_eq_some_iff.mp e).1
  have m : Sub G (upd G a o) := fun b u e => by rw [upd_ne (ne_of_none e ga)]; exact e
  have neR : ∀ p ∈ R, p.2 ≠ a := fun p hp z => by
    obtain ⟨d', e1, e2⟩ := k.refs p hp
    have := k.sep p.1 i _ _ a e1 e rfl rfl (by rw [e2, z]) ex
    rw [this, e] at e1; cases e1
  refine ⟨a, upd G a o, ex, m, r, ?_⟩
  refine ⟨by rw [List.length_set]; exact k.len, fun b u q => ?_, k.ext.trans m, fun b u q => ?_, k.kept, fun p hp => ⟨(k.rfree p hp).1, by rw [upd_ne (neR p hp)]; exact (k.rfree p hp).2⟩, fun j s x e1 e2 => ?_, fun j l s t b e1 e2 i1 i2 s1 s2 => ?_, fun p hp => ?_, fun j d' e1 => ?_⟩
  · by_cases hb : b = a
    · subst hb; rw [upd_same] at q; cases q; exact ho
    · rw [upd_ne hb] at q; exact k.sub b u q
  · by_cases hb : b = a
    · subst hb; exact .inr h0
    · rw [upd_ne hb] at q; exact k.new b u q
  · by_cases hj : j = i
    · subst hj
      rw [List.getElem?_set_self hi] at e1
      cases e1
      rw [ex] at e2; cases e2
      exact ⟨_, rfl, r⟩
    · rw [List.getElem?_set_ne (Ne.symm hj)] at e1
      have q := k.sl j s x e1 e2
      have ne : ∀ b, x = some (.ref b) → isO s = true → b ≠ a := fun b hb hs z => by
        subst z; subst hb
        exact hj (k.sep j i _ _ _ e1 e hs rfl e2 ex)
      cases s with
      | un => trivial
      | val d => obtain ⟨v, q1, q2⟩ := q; exact ⟨v, q1, q2.mono m⟩
      | own d => obtain ⟨b, q1, q2, q3, q4⟩ := q; exact ⟨b, q1, by rw [upd_ne (ne b q1 rfl)]; exact q2, q3, q4.mono m fun _ z => z⟩
      | rf d => obtain ⟨b, q1, q2, q4⟩ := q; exact ⟨b, q1, by rw [upd_ne (ne b q1 rfl)]; exact q2, q4.mono m fun _ z => z⟩
      | exc c ns ds => exact ⟨q.1, q.2.imp id fun ⟨dd, xs, vs, q1, q2, q3, q4⟩ => ⟨dd, xs, vs, q1, m _ _ q2, q3.mono m, q4⟩⟩
  · have h1 : j ≠ i := fun z => by subst z; rw [List.getElem?_set_self hi] at e1; cases e1; cases i1
    have h2 : l ≠ i := fun z => by subst z; rw [List.getElem?_set_self hi] at e2; cases e2; cases i2
    rw [List.getElem?_set_ne (Ne.symm h1)] at e1
    rw [List.getElem?_set_ne (Ne.symm h2)] at e2
    exact k.sep j l s t b e1 e2 i1 i2 s1 s2
  · obtain ⟨d', e1, e2⟩ := k.refs p hp
    have : p.1 ≠ i := fun z => by rw [z, e] at e1; cases e1
    exact ⟨d', by rw [List.getElem?_set_ne (Ne.symm this)]; exact e1, e2⟩
  · by_cases hj : j = i
    · subst hj
      rw [List.getElem?_set_self hi] at e1; cases e1
    · rw [List.getElem?_set_ne (Ne.symm hj)] at e1
      exact k.rfs j d' e1
end

/-! ### names and constants -/
def dVar (i : Nat) : DE := fun δ => match δ[i]? with
  | some (.val d) => .ok d δ
  | some (.own d) => .ok d (δ.set i (.val d))
  | _ => .st
def dC (d : D) : DE := fun δ => .ok d δ
section
variable {c : Cf} {X : Cx} {a b : Expr} {fa fb : DE} {pos : Pos}
theorem je_of {e : Expr} {t : TE} {F : DE} (p : PE X e t) (h : ∀ (R : List (Nat × Addr)) (H0 G0 H G : Hp) (σ : L2.St) (δ : DEnv) (Q : VK), (c.fx X R H0 G0).Ok H G σ δ → EPost (c.fx X R H0 G0) c.W σ (relD X.K c.cl) G (F δ) Q → t σ H Q) : JE c X e F :=
  fun R H0 G0 H G σ δ Q k h' pins s I => p.run pins s σ H Q I (h R H0 G0 H G σ δ Q k h')
theorem jt_of {e : Expr} {t : TT} {F : DT} (p : PT X e t) (h : ∀ (R : List (Nat × Addr)) (H0 G0 H G : Hp) (σ : L2.St) (δ : DEnv) (Q : Bool → Hp → Prop), (c.fx X R H0 G0).Ok H G σ δ → EPost (c.fx X R H0 G0) c.W σ relB G (F δ) Q → t σ H Q) : JT c X e F :=
  fun R H0 G0 H G σ δ Q k h' pins s I => p.run pins s σ H Q I (h R H0 G0 H G σ δ Q k h')
theorem jw_of {e : Expr} {t : TT} {F : DT} (p : PW X e t) (h : ∀ (R : List (Nat × Addr)) (H0 G0 H G : Hp) (σ : L2.St) (δ : DEnv) (Q : Bool → Hp → Prop), (c.fx X R H0 G0).Ok H G σ δ → EPost (c.fx X R H0 G0) c.W σ relB G (F δ) Q → t σ H Q) : JW c X e F :=
  fun R H0 G0 H G σ δ Q k h' wh pins s I => p.run wh pins s σ H Q I (h R H0 G0 H G σ δ Q k h')
theorem ja_of {es : List Expr} {t : TA} {F : DA} (p : PA X es t) (h : ∀ (R : List (Nat × Addr)) (H0 G0 H G : Hp) (σ : L2.St) (δ : DEnv) (Q : List V → Hp → Prop), (c.fx X R H0 G0).Ok H G σ δ → EPost (c.fx X R H0 G0) c.W σ (AvL X.K c.cl σ) G (F δ) Q → t σ H Q) : JA c X es F :=
  fun R H0 G0 H G σ δ Q k h' pos pins s I => p.run pos pins s σ H Q I (h R H0 G0 H G σ δ Q k h')

theorem je_var {i : Nat} (p : PE X a (tVar i)) : JE c X a (dVar i) := by
  refine je_of p fun R H0 G0 H G σ δ Q k h => ?_
  unfold dVar at h
  cases e : δ[i]? with
  | none => rw [e] at h; exact h.elim
  | some s =>
    rw [e] at h
    cases s with
    | val d =>
      obtain ⟨x, ex, v, rfl, r⟩ := k.at e
      exact ⟨v, ex, h v H G (.refl G) k r⟩
    | own d =>
      obtain ⟨a, G', ex, sg, r, k'⟩ := k.freeze e
      exact ⟨.ref a, ex, h (.ref a) H G' sg k' r⟩
    | un => exact h.elim
    | rf d => exact h.elim
    | exc c ns ds => exact h.elim
theorem je_c {d : D} {v : V} (p : PE X a (tC v)) (r : ∀ G, Rep X.K c.cl G v d) : JE c X a (dC d) :=
  je_of p fun R H0 G0 H G σ δ Q k h => h v H G (.refl G) k (r G)
theorem je_int {i : Int} {j : Nat} : JE c X (.Constant (.int i) j pos) (dC (.int i)) := je_c pe_int fun _ => .int i
theorem je_bl {i : Bool} {j : Nat} : JE c X (.Constant (.bool i) j pos) (dC (.bl i)) := je_c pe_bl fun _ => .bl i
theorem je_non {j : Nat} : JE c X (.Constant .none j pos) (dC .non) := je_c pe_non fun _ => .non
theorem je_str {x : Str} {j : Nat} : JE c X (.Constant (.str x) j pos) (dC (.str x)) := je_c pe_str fun _ => .str x

/-! ### operators -/
def dBin (g : D → D → Option D) (fa fb : DE) : DE := fun δ => (fa δ).bind fun x δ1 => (fb δ1).bind fun y δ2 => match g x y with
  | some z => .ok z δ2
  | none => .st
/-- r serves g -/
def BinOk (K : PySem.W.Frag) (cl : Cw) (r : R2) (g : D → D → Option D) : Prop :=
  ∀ (H G : Hp) (x y : V) (d e z : D) (Q : VK), Sub G H → Rep K cl G x d → Rep K cl G y e → g d e = some z → (∀ v H' G', Grow H G H' G' → Rep K cl G' v z → Q v H') → r x y H Q
theorem bin_ok {r : R2} {g : D → D → Option D} (hg : BinOk X.K c.cl r g) (ha : JE c X a fa) (hb : JE c X b fb) {R : List (Nat × Addr)} {H0 G0 H G : Hp} {σ : L2.St} {δ : DEnv} {Q : VK} (k : (c.fx X R H0 G0).Ok H G σ δ)
    (h : EPost (c.fx X R H0 G0) c.W σ (relD X.K c.cl) G (dBin g fa fb δ) Q) : tOp r (tE X a) (tE X b) σ H Q := by
  refine ha R H0 G0 H G σ δ _ k (EPost.imp (EPost.bind h) fun x H1 ⟨G1, d, δ1, s1, k1, r1, h1⟩ => ?_)
  refine hb R H0 G0 H1 G1 σ δ1 _ k1 (EPost.imp (EPost.bind h1) fun y H2 ⟨G2, e, δ2, s2, k2, r2, h2⟩ => ?_)
  cases q : g d e with
  | none => rw [q] at h2; exact h2.elim
  | some z =>
    rw [q] at h2
    exact hg H2 G2 x y d e z Q k2.sub (Rep.mono s2 r1) r2 q fun v H' G' gr rv => h2 v H' G' gr.gk (k2.grow gr) rv
theorem je_op {op : Operator} {r : R2} {g : D → D → Option D} (ho : OpR X (binaryOp op) r) (hg : BinOk X.K c.cl r g) (ha : JE c X a fa) (hb : JE c X b fb) : JE c X (.BinOp a op b pos) (dBin g fa fb) :=
  je_of (pe_op ho (peS X a) (peS X b)) fun R H0 G0 H G σ δ Q k h => bin_ok hg ha hb k h
theorem je_cmp {op : CmpOp} {r : R2} {g : D → D → Option D} (ho : OpR X (compareOp op) r) (hg : BinOk X.K c.cl r g) (ha : JE c X a fa) (hb : JE c X b fb) (hm : behindInMarks op b = false) : JE c X (.Compare a [op] [b] pos) (dBin g fa fb) :=
  je_of (pe_cmpR ho (peS X a) (peS X b) hm) fun R H0 G0 H G σ δ Q k h => bin_ok hg ha hb k h
/-- as a test -/
def dTest (fa : DE) : DT := fun δ => (fa δ).bind fun x δ1 => match x with
  | .bl b => .ok b δ1
  | _ => .st
theorem test_ok {R : List (Nat × Addr)} {H0 G0 G : Hp} {σ : L2.St} {o : EO D} {Q : Bool → Hp → Prop}
    (h : EPost (c.fx X R H0 G0) c.W σ relB G (o.bind fun x δ1 => match x with | .bl b => .ok b δ1 | _ => .st) Q) : EPost (c.fx X R H0 G0) c.W σ (relD X.K c.cl) G o (fun x H1 => ∃ k, x = .bl k ∧ Q k H1) := by
  refine EPost.imp (EPost.bind (rel := relD X.K c.cl) h) fun x H1 ⟨G1, d, δ1, s1, k1, r1, h1⟩ => ?_
  cases d with
  | bl b =>
    cases r1
    exact ⟨b, rfl, h1 b H1 G1 (.refl G1) k1 rfl⟩
  | _ => exact h1.elim
theorem jt_cmp {op : CmpOp} {r : R2} {g : D → D → Option D} (ho : OpR X (compareOp op) r) (hg : BinOk X.K c.cl r g) (ha : JE c X a fa) (hb : JE c X b fb) (hm : behindInMarks op b = false) : JT c X (.Compare a [op] [b] pos) (dTest (dBin g fa fb)) :=
  jt_of (pt_cmpR ho (peS X a) (peS X b) hm) fun R H0 G0 H G σ δ Q k h => bin_ok hg ha hb k (test_ok h)
/-- truth -/
def dTruth : D → Option Bool
  | .non => some false
  | .bl b => some b
  | .int i => some (i != 0)
  | .str y => if y.length ≤ sizeLine then some ((y.length : Int) != 0) else none
  | .lst xs => some (!xs.isEmpty)
  | .tup xs => some (!xs.isEmpty)
  | .dct ks vs => some (!ks.isEmpty)
  | _ => none
def dTru (fa : DE) : DT := fun δ => (fa δ).bind fun x δ1 => match dTruth x with
  | some b => .ok b δ1
  | none => .st
theorem RepL.isEmpty {K : PySem.W.Frag} {cl : Cw} {G : Hp} {vs : List V} {ds : List D} (r : RepL K cl G vs ds) : vs.isEmpty = ds.isEmpty := by
  cases r <;> rfl
theorem truth_ok {K : PySem.W.Frag} {cl : Cw} {H G : Hp} (s : Sub G H) {x : V} {d : D} {b : Bool} (r : Rep K cl G x d) (e : dTruth d = some b) : TruV K x H b := by
  cases r with
  | non => cases e; exact rfl
  | bl b' => cases e; exact rfl
  | int i => cases e; exact rfl
  | str y =>
    simp only [dTruth] at e
    by_cases hl : y.length ≤ sizeLine
    · rw [if_pos hl] at e; cases e; exact ⟨hl, rfl⟩
    · rw [if_neg hl] at e; cases e
  | lst h1 h2 => cases e; exact .inl ⟨_, .inl (.inl (s _ _ h1)), by rw [h2.isEmpty]⟩
  | tup h1 h2 => cases e; exact .inr (.inl ⟨_, s.sqT h1, by rw [h2.isEmpty]⟩)
  | @dct a ks xs ds h1 hl h2 =>
    cases e
    refine .inr (.inr ⟨_, s _ _ h1, ?_⟩)
    cases ks with
    | nil => rfl
    | cons k r =>
      cases xs with
      | nil => cases hl
      | cons x t => rfl
  | ins => cases e
  | scr => cases e
  | set => cases e
  | tpn => cases e
  | rng => cases e
theorem jt_truth (ha : JE c X a fa) (he : ∀ whole, isTrue a X.env whole = (do let v ← whole; standAt a.pos; holding [v] (truthy v))) : JT c X a (dTru fa) := by
  refine jt_of (pt_truth (peS X a) he) fun R H0 G0 H G σ δ Q k h => ?_
  refine ha R H0 G0 H G σ δ _ k (EPost.imp (EPost.bind h) fun x H1 ⟨G1, d, δ1, s1, k1, r1, h1⟩ => ?_)
  cases q : dTruth d with
  | none => rw [q] at h1; exact h1.elim
  | some b =>
    rw [q] at h1
    exact ⟨b, truth_ok k1.sub r1 q, h1 b H1 G1 (.refl G1) k1 rfl⟩
end
end DL

set_option maxRecDepth 100000
set_option maxHeartbeats 4000000
namespace DL
open PySem PySem.Spec PyProof.Rows L2

/-! ### a step that changes the objects at A alone -/
structure Frm (A : List Addr) (H G H' G' : Hp) : Prop where
  gk : Sub G G'
  sub : Sub G' H'
  kept : ∀ b o, H b = some o → b ∉ A → H' b = some o
  new : ∀ b o, G' b = some o → G b = some o ∨ H b = none
/-- a slot's new content -/
def Sl.put (s : Sl) (d : D) : Sl := match s with
  | .own _ => .own d
  | .rf _ => .rf d
  | s => s
def Sl.cont : Sl → Option D
  | .own d => some d
  | .rf d => some d
  | _ => none
section
variable {K : PySem.W.Frag} {cl : Cw} {hx : Addr × Option Addr} {R : List (Nat × Addr)} {H0 G0 H G H' G' : Hp} {σ : L2.St} {δ : DEnv} {A : List Addr}
/-- behind such a step: δ' differs in the contents of owned slots alone -/
theorem Ok.frame (k : Ok K cl hx R H0 G0 H G σ δ) (f : Frm A H G H' G') {δ' : DEnv} (hl : δ'.length = δ.length)
    (hs : ∀ (i : Nat) (s : Sl), δ[i]? = some s → isO s = false → δ'[i]? = some s)
    (ho : ∀ (i : Nat) (s : Sl) (a : Addr), δ[i]? = some s → isO s = true → σ[i]? = some (some (.ref a)) → ∃ d, δ'[i]? = some (s.put d) ∧ G' a = none ∧ Own K cl H' G' a d)
    (hA : ∀ a ∈ A, ∃ (i : Nat) (s : Sl), δ[i]? = some s ∧ isO s = true ∧ σ[i]? = some (some (.ref a))) : Ok K cl hx R H0 G0 H' G' σ δ' where
  len := by rw [k.len, hl]
  sub := f.sub
  ext := k.ext.trans f.gk
  new := fun b o e => by
    rcases f.new b o e with z | z
    · exact k.new b o z
    · by_cases hb : ∃ p ∈ R, p.2 = b
      · obtain ⟨p, hp, rfl⟩ := hb
        obtain ⟨d, e1, e2⟩ := k.refs p hp
        obtain ⟨a, q, _, w⟩ := k.sl _ _ _ e1 e2
        cases q
        obtain ⟨u, hu⟩ := w.ex
        rw [z] at hu; cases hu
      · refine .inr ?_
        cases q : H0 b with
        | none => rfl
        | some u =>
          have := k.kept b u q fun p hp e => hb ⟨p, hp, e⟩
          rw [z] at this; cases this
  kept := fun b o e hR => by
    refine f.kept b o (k.kept b o e hR) fun hb => ?_
    obtain ⟨i, s, e1, e2, e3⟩ := hA b hb
    obtain ⟨a, d, q1, q2, q3, q4⟩ := (k.sl i s _ e1 e3).ex e2
    cases q1
    rcases q4 with q4 | q4
    · subst q4
      obtain ⟨a', z, _, h0, _⟩ := k.sl i _ _ e1 e3
      cases z
      rw [h0] at e; cases e
    · subst q4
      -- a by-reference parameter: its address stands in R
      obtain ⟨p, hp, z⟩ := k.rfs i d e1
      obtain ⟨d', e4, e5⟩ := k.refs p hp
      rw [z, e3] at e5
      cases e5
      exact hR p hp rfl
  rfree := fun p hp => by
    refine ⟨(k.rfree p hp).1, ?_⟩
    obtain ⟨d, e1, e2⟩ := k.refs p hp
    obtain ⟨d', _, q, _⟩ := ho p.1 _ p.2 e1 rfl e2
    exact q
  sl := fun i s x e1 e2 => by
    have hi : i < δ.length := by rw [← hl]; exact (List.getElem?_eq_some_iff.mp e1).1
    have e0 : δ[i]? = some δ[i] := List.getElem?_eq_getElem hi
    have q := k.sl i _ x e0 e2
    cases hO : isO δ[i] with
    | false =>
      have := hs i _ e0 hO
      rw [e1] at this
      cases this
      generalize δ[i] = s at q hO
      cases s with
      | un => trivial
      | val d => obtain ⟨v, q1, q2⟩ := q; exact ⟨v, q1, q2.mono f.gk⟩
      | own d => cases hO
      | rf d => cases hO
      | exc c ns ds => exact ⟨q.1, q.2.imp id fun ⟨dd, xs, vs, q1, q2, q3, q4⟩ => ⟨dd, xs, vs, q1, f.gk _ _ q2, q3.mono f.gk, q4⟩⟩
    | true =>
      obtain ⟨a, d, q1, q2, q3, q4⟩ := q.ex hO
      obtain ⟨d', z1, z2, z3⟩ := ho i _ a e0 hO (by rw [e2, q1])
      rw [e1] at z1
      cases z1
      rcases q4 with q4 | q4
      · rw [q4] at q ⊢
        obtain ⟨a', y1, y2, y3, y4⟩ := q
        rw [q1] at y1; cases y1
        exact ⟨a, q1, z2, y3, z3⟩
      · rw [q4]
        exact ⟨a, q1, z2, z3⟩
  sep := fun i j s t a e1 e2 i1 i2 s1 s2 => by
    have hi : i < δ.length := by rw [← hl]; exact (List.getElem?_eq_some_iff.mp e1).1
    have hj : j < δ.length := by rw [← hl]; exact (List.getElem?_eq_some_iff.mp e2).1
    have o1 : isO δ[i] = true := by
      cases hO : isO δ[i] with
      | true => rfl
      | false => have := hs i _ (List.getElem?_eq_getElem hi) hO; rw [e1] at this; cases this; rw [hO] at i1; cases i1
    have o2 : isO δ[j] = true := by
      cases hO : isO δ[j] with
      | true => rfl
      | false => have := hs j _ (List.getElem?_eq_getElem hj) hO; rw [e2] at this; cases this; rw [hO] at i2; cases i2
    exact k.sep i j _ _ a (List.getElem?_eq_getElem hi) (List.getElem?_eq_getElem hj) o1 o2 s1 s2
  refs := fun p hp => by
    obtain ⟨d, e1, e2⟩ := k.refs p hp
    obtain ⟨d', q, _, _⟩ := ho p.1 _ p.2 e1 rfl e2
    exact ⟨d', q, e2⟩
  rfs := fun i d e => by
    have hi : i < δ.length := by rw [← hl]; exact (List.getElem?_eq_some_iff.mp e).1
    have e0 : δ[i]? = some δ[i] := List.getElem?_eq_getElem hi
    cases hO : isO δ[i] with
    | false =>
      have z := hs i _ e0 hO
      rw [e] at z
      rw [← Option.some.inj z] at hO; cases hO
    | true =>
      obtain ⟨x, ex, q⟩ := k.at e0
      obtain ⟨a, d0, q1, q2, q3, q4⟩ := q.ex hO
      obtain ⟨d', z1, _, _⟩ := ho i _ a e0 hO (by rw [ex, q1])
      rw [e] at z1
      rcases q4 with q4 | q4
      · rw [q4] at z1; cases z1
      · rw [q4] at e0; exact k.rfs i d0 e0
/-- a slot stored -/
theorem Ok.set (k : Ok K cl hx R H0 G0 H G σ δ) {i : Nat} {v : V} {s0 s : Sl} (e0 : δ[i]? = some s0) (hn : ∀ d, s0 ≠ .rf d) (hv : SlOk K cl hx H0 H G (some v) s) (hr : ∀ d, s ≠ .rf d)
    (hsep : ∀ a, isO s = true → v = .ref a → ∀ (j : Nat) (t : Sl), δ[j]? = some t → isO t = true → σ[j]? ≠ some (some (.ref a))) : Ok K cl hx R H0 G0 H G (σ.set i (some v)) (δ.set i s) := by
  have hi : i < δ.length := (List.getElem?_eq_some_iff.mp e0).1
  have hi2 : i < σ.length := by rw [k.len]; exact hi
  have neR : ∀ p ∈ R, p.1 ≠ i := fun p hp z => by
    obtain ⟨d, e1, _⟩ := k.refs p hp
    rw [z, e0] at e1
    cases e1
    exact hn d rfl
  refine ⟨by rw [List.length_set, List.length_set]; exact k.len, k.sub, k.ext, k.new, k.kept, k.rfree, fun j t x e1 e2 => ?_, fun j l t u a e1 e2 i1 i2 s1 s2 => ?_, fun p hp => ?_, fun j d e => ?_⟩
  · by_cases hj : j = i
    · subst hj
      rw [List.getElem?_set_self hi] at e1
      rw [List.getElem?_set_self hi2] at e2
      cases e1; cases e2
      exact hv
    · rw [List.getElem?_set_ne (Ne.symm hj)] at e1 e2
      exact k.sl j t x e1 e2
  · by_cases hj : j = i
    · by_cases hl : l = i
      · rw [hj, hl]
      · subst hj
        rw [List.getElem?_set_self hi] at e1
        rw [List.getElem?_set_self hi2] at s1
        rw [List.getElem?_set_ne (Ne.symm hl)] at e2 s2
        cases e1; cases s1
        exact absurd s2 (hsep a i1 rfl l u e2 i2)
    · by_cases hl : l = i
      · subst hl
        rw [List.getElem?_set_self hi] at e2
        rw [List.getElem?_set_self hi2] at s2
        rw [List.getElem?_set_ne (Ne.symm hj)] at e1 s1
        cases e2; cases s2
        exact absurd s1 (hsep a i2 rfl j t e1 i1)
      · rw [List.getElem?_set_ne (Ne.symm hj)] at e1 s1
        rw [List.getElem?_set_ne (Ne.symm hl)] at e2 s2
        exact k.sep j l t u a e1 e2 i1 i2 s1 s2
  · obtain ⟨d, e1, e2⟩ := k.refs p hp
    exact ⟨d, by rw [List.getElem?_set_ne (Ne.symm (neR p hp))]; exact e1, by rw [List.getElem?_set_ne (Ne.symm (neR p hp))]; exact e2⟩
  · by_cases hj : j = i
    · subst hj
      rw [List.getElem?_set_self hi] at e
      cases e
      exact absurd rfl (hr d)
    · rw [List.getElem?_set_ne (Ne.symm hj)] at e
      exact k.rfs j d e
/-- the address of a new object is nobody's -/
theorem Ok.freshH0 (k : Ok K cl hx R H0 G0 H G σ δ) {p : Addr} (np : H p = none) : H0 p = none := by
  cases q : H0 p with
  | none => rfl
  | some u =>
    by_cases hb : ∃ r ∈ R, r.2 = p
    · obtain ⟨r, hr, rfl⟩ := hb
      obtain ⟨d, e1, e2⟩ := k.refs r hr
      obtain ⟨a, q, _, w⟩ := k.sl _ _ _ e1 e2
      cases q
      obtain ⟨u, hu⟩ := w.ex
      rw [np] at hu; cases hu
    · have := k.kept p u q fun r hr e => hb ⟨r, hr, e⟩
      rw [np] at this; cases this
theorem Ok.freshSl (k : Ok K cl hx R H0 G0 H G σ δ) {p : Addr} (np : H p = none) {j : Nat} {t : Sl} (e : δ[j]? = some t) (o : isO t = true) : σ[j]? ≠ some (some (.ref p)) := fun z => by
  obtain ⟨a, d, q1, q2, q3, q4⟩ := (k.sl j t _ e z).ex o
  cases q1
  obtain ⟨u, hu⟩ := q3.ex
  rw [np] at hu; cases hu
theorem Ok.freshG (k : Ok K cl hx R H0 G0 H G σ δ) {p : Addr} (np : H p = none) : G p = none := by
  cases q : G p with
  | none => rfl
  | some u => have := k.sub p u q; rw [np] at this; cases this
end

/-! ### new owned objects -/
def FPost (f : Fx) (W : WX) (σ : L2.St) (G : Hp) (o : EO D) (Q : VK) : Prop := match o with
  | .ok d δ => ∀ a H' G', Sub G G' → f.Ok H' G' σ δ → G' a = none → f.H0 a = none → Own f.K f.cl H' G' a d → (∀ (j : Nat) (t : Sl), δ[j]? = some t → isO t = true → σ[j]? ≠ some (some (.ref a))) → Q (.ref a) H'
  | .ex c ns ds δ => ∀ cls dd H' G', Sub G G' → f.Ok H' G' σ δ → XOk f.K f.cl G' c ns ds cls dd → W cls dd σ H'
  | .st => False
def JF (c : Cf) (X : Cx) (e : Expr) (F : DE) : Prop := ∀ (R : List (Nat × Addr)) (H0 G0 H G : Hp) (σ : L2.St) (δ : DEnv) (Q : VK), (c.fx X R H0 G0).Ok H G σ δ → FPost (c.fx X R H0 G0) c.W σ G (F δ) Q → tE X e σ H Q
section
variable {K : PySem.W.Frag} {cl : Cw} {hx : Addr × Option Addr} {R : List (Nat × Addr)} {H0 G0 H G H' G' : Hp} {σ : L2.St} {δ : DEnv} {A : List Addr}
/-- an owned object that no slot holds is frozen -/
theorem Ok.freezeNew (k : Ok K cl hx R H0 G0 H G σ δ) {a : Addr} {d : D} (ga : G a = none) (h0 : H0 a = none) (w : Own K cl H G a d) (hs : ∀ (j : Nat) (t : Sl), δ[j]? = some t → isO t = true → σ[j]? ≠ some (some (.ref a))) :
    ∃ G', Sub G G' ∧ Rep K cl G' (.ref a) d ∧ Ok K cl hx R H0 G0 H G' σ δ := by
  obtain ⟨o, ho, r⟩ := w.froze k.sub ga
  have m : Sub G (upd G a o) := fun b u e => by rw [upd_ne (ne_of_none e ga)]; exact e
  refine ⟨upd G a o, m, r, ⟨k.len, fun b u q => ?_, k.ext.trans m, fun b u q => ?_, k.kept, fun p hp => ?_, fun j s x e1 e2 => ?_, k.sep, k.refs, k.rfs⟩⟩
  · by_cases hb : b = a
    · subst hb; rw [upd_same] at q; cases q; exact ho
    · rw [upd_ne hb] at q; exact k.sub b u q
  · by_cases hb : b = a
    · subst hb; exact .inr h0
    · rw [upd_ne hb] at q; exact k.new b u q
  · refine ⟨(k.rfree p hp).1, ?_⟩
    obtain ⟨d', e1, e2⟩ := k.refs p hp
    have : p.2 ≠ a := fun z => hs _ _ e1 rfl (by rw [e2, z])
    rw [upd_ne this]
    exact (k.rfree p hp).2
  · have q := k.sl j s x e1 e2
    have ne : ∀ b, x = some (.ref b) → isO s = true → b ≠ a := fun b hb hO z => by
      subst z; subst hb
      exact hs j s e1 hO e2
    cases s with
    | un => trivial
    | val d => obtain ⟨v, q1, q2⟩ := q; exact ⟨v, q1, q2.mono m⟩
    | own d => obtain ⟨b, q1, q2, q3, q4⟩ := q; exact ⟨b, q1, by rw [upd_ne (ne b q1 rfl)]; exact q2, q3, q4.mono m fun _ z => z⟩
    | rf d => obtain ⟨b, q1, q2, q4⟩ := q; exact ⟨b, q1, by rw [upd_ne (ne b q1 rfl)]; exact q2, q4.mono m fun _ z => z⟩
    | exc c ns ds => exact ⟨q.1, q.2.imp id fun ⟨dd, xs, vs, q1, q2, q3, q4⟩ => ⟨dd, xs, vs, q1, m _ _ q2, q3.mono m, q4⟩⟩
end
theorem FPost.bind {α : Type} {f : Fx} {W : WX} {σ : L2.St} {rel : Hp → α → α → Prop} {β : Type} {rel' : Hp → β → α → Prop} {G : Hp} {o : EO α} {k : α → DEnv → EO D} {Q : VK} (h : FPost f W σ G (o.bind k) Q) :
    EPost f W σ rel' G o (fun b H1 => ∃ G1 a δ1, Sub G G1 ∧ f.Ok H1 G1 σ δ1 ∧ rel' G1 b a ∧ FPost f W σ G1 (k a δ1) Q) := by
  cases o with
  | ok a δ =>
    refine fun b H' G' s k' r => ⟨G', a, δ, s, k', r, ?_⟩
    have h : FPost f W σ G (k a δ) Q := h
    cases q : k a δ with
    | ok d δ' => rw [q] at h; exact fun b H' G'' s' => h b H' G'' (s.trans s')
    | ex c ns ds δ' => rw [q] at h; exact fun cls dd H' G'' s' => h cls dd H' G'' (s.trans s')
    | st => rw [q] at h; exact h
  | ex c ns ds δ => exact h
  | st => exact h
theorem JF.je {c : Cf} {X : Cx} {e : Expr} {F : DE} (h : JF c X e F) : JE c X e F := fun R H0 G0 H G σ δ Q k hp => by
  refine h R H0 G0 H G σ δ Q k ?_
  cases q : F δ with
  | ok d δ' =>
    rw [q] at hp
    intro a H' G' s k' ga h0 w hs
    obtain ⟨G2, s2, r, k2⟩ := k'.freezeNew ga h0 w hs
    exact hp (.ref a) H' G2 (s.trans s2) k2 r
  | ex c ns ds δ' => rw [q] at hp; exact hp
  | st => rw [q] at hp; exact hp

/-! ### arguments, displays -/
def dNil : DA := fun δ => .ok [] δ
def dCons (fa : DE) (fr : DA) : DA := fun δ => (fa δ).bind fun x δ1 => (fr δ1).bind fun xs δ2 => .ok (.v x :: xs) δ2
def dRef (j : Nat) (fr : DA) : DA := fun δ => (fr δ).bind fun xs δ2 => .ok (.r j :: xs) δ2
def avs : List AV → Option (List D)
  | [] => some []
  | .v d :: r => (avs r).map (d :: ·)
  | .r _ :: _ => none
section
variable {c : Cf} {X : Cx} {e : Expr} {es : List Expr} {fe : DE} {fs : DA} {pos : Pos}
theorem ja_nil : JA c X [] dNil := ja_of pa_nil fun R H0 G0 H G σ δ Q k h => h [] H G (.refl G) k .nil
theorem ja_cons (he : JE c X e fe) (hr : JA c X es fs) (hs : starEach (e :: es) X.env = (false, eval e X.env) :: starEach es X.env := by rfl) : JA c X (e :: es) (dCons fe fs) := by
  refine ja_of (pa_cons (peS X e) (paS X es) hs) fun R H0 G0 H G σ δ Q k h => ?_
  refine he R H0 G0 H G σ δ _ k (EPost.imp (EPost.bind h) fun x H1 ⟨G1, d, δ1, s1, k1, r1, h1⟩ => ?_)
  refine hr R H0 G0 H1 G1 σ δ1 _ k1 (EPost.imp (EPost.bind h1) fun xs H2 ⟨G2, ds, δ2, s2, k2, r2, h2⟩ => ?_)
  exact h2 (x :: xs) H2 G2 (.refl G2) k2 (.cons (Rep.mono s2 r1) r2)
theorem ja_ref {j : Nat} (p : PE X e (tVar j)) (hr : JA c X es fs) (hs : starEach (e :: es) X.env = (false, eval e X.env) :: starEach es X.env := by rfl) : JA c X (e :: es) (fun δ => match δ[j]? with | some s => if isO s then dRef j fs δ else .st | none => .st) := by
  refine ja_of (pa_cons p (paS X es) hs) fun R H0 G0 H G σ δ Q k h => ?_
  cases q : δ[j]? with
  | none => rw [q] at h; exact h.elim
  | some s =>
    rw [q] at h
    cases hO : isO s with
    | false => simp only [hO] at h; exact h.elim
    | true =>
      simp only [hO] at h
      obtain ⟨x, ex, w⟩ := k.at q
      obtain ⟨a, d, q1, _⟩ := w.ex hO
      subst q1
      refine ⟨.ref a, ex, ?_⟩
      refine hr R H0 G0 H G σ δ _ k (EPost.imp (EPost.bind h) fun xs H2 ⟨G2, ds, δ2, s2, k2, r2, h2⟩ => ?_)
      exact h2 (.ref a :: xs) H2 G2 (.refl G2) k2 (.cons ex r2)
theorem AvL.vals {K : PySem.W.Frag} {cl : Cw} {σ : L2.St} {G : Hp} : ∀ {vs : List V} {as : List AV} {ds : List D}, AvL K cl σ G vs as → avs as = some ds → RepL K cl G vs ds
  | _, _, _, .nil, e => by cases e; exact .nil
  | _, _, _, .cons (a := .v d) h t, e => by
    simp only [avs, Option.map_eq_some_iff] at e
    obtain ⟨ds, e1, rfl⟩ := e
    exact .cons h (AvL.vals t e1)
  | _, _, _, .cons (a := .r j) h t, e => by cases e
/-- the values of a list of expressions -/
def dVals (fs : DA) (k : List D → DEnv → EO D) : DE := fun δ => (fs δ).bind fun as δ1 => match avs as with
  | some ds => k ds δ1
  | none => .st
def dTup (fs : DA) : DE := dVals fs fun ds δ => if ds.length ≤ sizeLine then .ok (.tup ds) δ else .st
def dLst (fs : DA) : DE := dVals fs fun ds δ => if ds.length ≤ sizeLine then .ok (.lst ds) δ else .st
theorem je_tup {x1 : Nat} (h : JA c X es fs) : JE c X (.Tuple es x1 pos) (dTup fs) := by
  refine je_of (pe_tup (paS X es)) fun R H0 G0 H G σ δ Q k hp => ?_
  refine h R H0 G0 H G σ δ _ k (EPost.imp (EPost.bind hp) fun xs H1 ⟨G1, as, δ1, s1, k1, r1, h1⟩ => ?_)
  cases q : avs as with
  | none => rw [q] at h1; exact h1.elim
  | some ds =>
    rw [q] at h1
    have rl := r1.vals q
    by_cases hz : ds.length ≤ sizeLine
    · simp only [if_pos hz] at h1
      refine ⟨by rw [rl.length]; exact hz, fun p np => ?_⟩
      have g := Grow.froze k1.sub np (.tup xs)
      exact h1 (.ref p) _ _ g.gk (k1.grow g) (.tup (.inl (.inl upd_same)) (rl.mono g.gk))
    · simp only [if_neg hz] at h1; exact h1.elim
theorem jf_lst (h : JA c X es fs) : JF c X (.List es pos) (dLst fs) := fun R H0 G0 H G σ δ Q k hp pins s I => by
  refine (pe_lst (paS X es)).run pins s σ H Q I ?_
  refine h R H0 G0 H G σ δ _ k (EPost.imp (FPost.bind (rel := fun _ _ _ => True) hp) fun xs H1 ⟨G1, as, δ1, s1, k1, r1, h1⟩ => ?_)
  cases q : avs as with
  | none => rw [q] at h1; exact h1.elim
  | some ds =>
    rw [q] at h1
    have rl := r1.vals q
    by_cases hz : ds.length ≤ sizeLine
    · simp only [if_pos hz] at h1
      refine ⟨by rw [rl.length]; exact hz, fun p np => ?_⟩
      have g := Grow.fresh k1.sub np (.lst xs)
      exact h1 p _ _ g.gk (k1.grow g) (k1.freshG np) (k1.freshH0 np) ⟨xs, upd_same, rl⟩ fun j t e o => k1.freshSl np e o
    · simp only [if_neg hz] at h1; exact h1.elim
end
end DL

set_option maxRecDepth 100000
set_option maxHeartbeats 4000000
namespace DL
open PySem PySem.Spec PyProof.Rows L2

/-! ### what a def promises -/
inductive FO where
  | ret (d : D) (rs : List D) | new (d : D) (rs : List D) | ex (c : Str) (ns : List Str) (ds : List D) (rs : List D) | st
/-- the arguments: kind true: by reference -/
inductive ArgOk (K : PySem.W.Frag) (cl : Cw) (H G : Hp) : List V → List Bool → List D → Prop
  | nil : ArgOk K cl H G [] [] []
  | val {v : V} {d : D} {vs : List V} {ks : List Bool} {ds : List D} : Rep K cl G v d → ArgOk K cl H G vs ks ds → ArgOk K cl H G (v :: vs) (false :: ks) (d :: ds)
  | rf {a : Addr} {d : D} {vs : List V} {ks : List Bool} {ds : List D} : G a = none → Own K cl H G a d → ArgOk K cl H G vs ks ds → ArgOk K cl H G (.ref a :: vs) (true :: ks) (d :: ds)
/-- the addresses of the arguments by reference -/
def refA : List V → List Bool → List Addr
  | .ref a :: vs, true :: ks => a :: refA vs ks
  | _ :: vs, _ :: ks => refA vs ks
  | _, _ => []
inductive RefOk (K : PySem.W.Frag) (cl : Cw) (H G : Hp) : List Addr → List D → Prop
  | nil : RefOk K cl H G [] []
  | cons {a : Addr} {d : D} {as : List Addr} {ds : List D} : G a = none → Own K cl H G a d → RefOk K cl H G as ds → RefOk K cl H G (a :: as) (d :: ds)
/-- THE PROMISE of a def whose plain function is fn -/
def SpF (K : PySem.W.Frag) (cl : Cw) (ks : List Bool) (fn : List D → FO) : Sp := fun vs H Q E => ∃ (G : Hp) (ds : List D), Sub G H ∧ ArgOk K cl H G vs ks ds ∧ (refA vs ks).Nodup ∧
  match fn ds with
  | .ret d rs => ∀ v H' G', Frm (refA vs ks) H G H' G' → RefOk K cl H' G' (refA vs ks) rs → Rep K cl G' v d → Q v H'
  | .new d rs => ∀ a H' G', Frm (refA vs ks) H G H' G' → RefOk K cl H' G' (refA vs ks) rs → H a = none → G' a = none → Own K cl H' G' a d → Q (.ref a) H'
  | .ex c ns es rs => ∀ cls dd H' G', Frm (refA vs ks) H G H' G' → RefOk K cl H' G' (refA vs ks) rs → XOk K cl G' c ns es cls dd → E cls dd H'
  | .st => False
theorem ArgOk.length {K : PySem.W.Frag} {cl : Cw} {H G : Hp} : ∀ {vs : List V} {ks : List Bool} {ds : List D}, ArgOk K cl H G vs ks ds → vs.length = ks.length ∧ ds.length = ks.length
  | _, _, _, .nil => ⟨rfl, rfl⟩
  | _, _, _, .val _ t => ⟨congrArg (· + 1) t.length.1, congrArg (· + 1) t.length.2⟩
  | _, _, _, .rf _ _ t => ⟨congrArg (· + 1) t.length.1, congrArg (· + 1) t.length.2⟩

/-! ### calls -/
/-- the arguments' data: those by reference as the slots hold them -/
def avd (δ : DEnv) : List AV → Option (List D)
  | [] => some []
  | .v d :: r => (avd δ r).map (d :: ·)
  | .r j :: r => (avd δ r).bind fun ds => (δ[j]?.bind Sl.cont).map fun d => d :: ds
def avk : List AV → List Bool
  | [] => []
  | .v _ :: r => false :: avk r
  | .r _ :: r => true :: avk r
def avj : List AV → List Nat
  | [] => []
  | .v _ :: r => avj r
  | .r j :: r => j :: avj r
/-- the new contents -/
def putR (δ : DEnv) : List Nat → List D → Option DEnv
  | [], [] => some δ
  | j :: js, d :: ds => match δ[j]? with
    | some s => putR (δ.set j (s.put d)) js ds
    | none => none
  | _, _ => none
def nodupB : List Nat → Bool
  | [] => true
  | j :: r => !r.contains j && nodupB r
def dCall (ks : List Bool) (dvs : List D) (fn : List D → FO) (fs : DA) : DE := fun δ => (fs δ).bind fun as δ1 =>
  if avk as ++ dvs.map (fun _ => false) = ks ∧ nodupB (avj as) = true then
    match avd δ1 as with
    | none => .st
    | some ds => match fn (ds ++ dvs) with
      | .ret d rs => match putR δ1 (avj as) rs with | some δ2 => .ok d δ2 | none => .st
      | .new d rs => match putR δ1 (avj as) rs with | some δ2 => .ok d δ2 | none => .st
      | .ex c ns es rs => match putR δ1 (avj as) rs with | some δ2 => .ex c ns es δ2 | none => .st
      | .st => .st
  else .st
section
variable {K : PySem.W.Frag} {cl : Cw} {hx : Addr × Option Addr} {R : List (Nat × Addr)} {H0 G0 H G H' G' : Hp} {σ : L2.St} {δ : DEnv}
theorem nodupB_ok : ∀ {js : List Nat}, nodupB js = true → js.Nodup
  | [], _ => .nil
  | j :: r, h => by
    simp only [nodupB, Bool.and_eq_true, Bool.not_eq_true', List.contains_eq_mem, decide_eq_false_iff_not] at h
    exact .cons (fun b hb e => h.1 (e ▸ hb)) (nodupB_ok h.2)
theorem args_ok (k : Ok K cl hx R H0 G0 H G σ δ) : ∀ {vs : List V} {as : List AV} {ds : List D}, AvL K cl σ G vs as → avd δ as = some ds → ArgOk K cl H G vs (avk as) ds
  | _, _, _, .nil, e => by cases e; exact .nil
  | _, _, _, .cons (a := .v d) (as := r) h t, e => by
    simp only [avd, Option.map_eq_some_iff] at e
    obtain ⟨ds, e1, rfl⟩ := e
    exact .val h (args_ok k t e1)
  | _, _, _, .cons (v := v) (a := .r j) (as := r) h t, e => by
    simp only [avd, Option.bind_eq_some_iff, Option.map_eq_some_iff] at e
    obtain ⟨ds, e1, d, ⟨s, e2, e3⟩, rfl⟩ := e
    have h : σ[j]? = some (some v) := h
    have q := k.sl j s _ e2 h
    cases s with
    | own d' =>
      cases e3
      obtain ⟨a, z, ga, _, w⟩ := q
      cases z
      exact .rf ga w (args_ok k t e1)
    | rf d' =>
      cases e3
      obtain ⟨a, z, ga, w⟩ := q
      cases z
      exact .rf ga w (args_ok k t e1)
    | un => cases e3
    | val d' => cases e3
    | exc c ns ds => cases e3
theorem args_def {vs us : List V} {ks : List Bool} {ds es : List D} (h : ArgOk K cl H G vs ks ds) (r : RepL K cl G us es) : ArgOk K cl H G (vs ++ us) (ks ++ es.map (fun _ => false)) (ds ++ es) := by
  induction h with
  | nil =>
    show ArgOk K cl H G us (es.map fun _ => false) es
    induction es generalizing us with
    | nil => cases r; exact .nil
    | cons e es ih =>
      cases r with
      | cons r1 r2 => exact .val r1 (ih r2)
  | val h _ ih => exact .val h ih
  | rf h w _ ih => exact .rf h w ih
theorem refA_def : ∀ {vs us : List V} {ks : List Bool} {ds : List D}, ArgOk K cl H G vs ks ds → ∀ (es : List D), us.length = es.length → refA (vs ++ us) (ks ++ es.map (fun _ => false)) = refA vs ks
  | _, us, _, _, .nil, es, hl => by
    show refA us (es.map fun _ => false) = []
    induction us generalizing es with
    | nil => rfl
    | cons u us ih =>
      cases es with
      | nil => cases hl
      | cons e es =>
        have := ih es (by simpa using hl)
        cases u <;> exact this
  | _, us, _, _, .val (v := v) (vs := vs) (ks := ks) h t, es, hl => by
    have ih := refA_def t es hl
    cases v <;> exact ih
  | _, us, _, _, .rf (a := a) (vs := vs) (ks := ks) h w t, es, hl => by
    have ih := refA_def t es hl
    show a :: refA (vs ++ us) (ks ++ _) = a :: refA vs ks
    rw [ih]
/-- the slots and the addresses -/
inductive JsOk (σ : L2.St) : List Nat → List Addr → Prop
  | nil : JsOk σ [] []
  | cons {j : Nat} {a : Addr} {js : List Nat} {as : List Addr} : σ[j]? = some (some (.ref a)) → JsOk σ js as → JsOk σ (j :: js) (a :: as)
theorem js_ok (k : Ok K cl hx R H0 G0 H G σ δ) : ∀ {vs : List V} {as : List AV} {ds : List D}, AvL K cl σ G vs as → avd δ as = some ds → JsOk σ (avj as) (refA vs (avk as)) ∧ ∀ j ∈ avj as, ∃ s, δ[j]? = some s ∧ isO s = true
  | _, _, _, .nil, e => ⟨.nil, fun j h => nomatch h⟩
  | _, _, _, .cons (v := v) (a := .v d) (as := r) h t, e => by
    simp only [avd, Option.map_eq_some_iff] at e
    obtain ⟨ds, e1, rfl⟩ := e
    have ih := js_ok k t e1
    cases v <;> exact ih
  | _, _, _, .cons (v := v) (a := .r j) (as := r) h t, e => by
    simp only [avd, Option.bind_eq_some_iff, Option.map_eq_some_iff] at e
    obtain ⟨ds, e1, d, ⟨s, e2, e3⟩, rfl⟩ := e
    have h : σ[j]? = some (some v) := h
    have ih := js_ok k t e1
    have q := k.sl j s _ e2 h
    have hO : isO s = true := by
      cases s with
      | own d' => rfl
      | rf d' => rfl
      | un => cases e3
      | val d' => cases e3
      | exc c ns ds => cases e3
    obtain ⟨a, d0, z, _, _⟩ := q.ex hO
    cases z
    refine ⟨.cons h ih.1, fun i hi => ?_⟩
    rcases List.mem_cons.mp hi with rfl | hi
    · exact ⟨s, e2, hO⟩
    · exact ih.2 i hi
theorem js_nodup (k : Ok K cl hx R H0 G0 H G σ δ) : ∀ {js : List Nat} {as : List Addr}, JsOk σ js as → js.Nodup → (∀ j ∈ js, ∃ s, δ[j]? = some s ∧ isO s = true) → as.Nodup
  | _, _, .nil, _, _ => .nil
  | _, _, .cons (j := j) (a := a) (js := js) (as := as) h t, nd, ho => by
    have nd' := List.nodup_cons.mp nd
    refine List.nodup_cons.mpr ⟨fun ha => ?_, js_nodup k t nd'.2 fun i hi => ho i (List.mem_cons_of_mem _ hi)⟩
    have find : ∀ {js' : List Nat} {as' : List Addr}, JsOk σ js' as' → a ∈ as' → ∃ i ∈ js', σ[i]? = some (some (.ref a)) := by
      intro js' as' q
      induction q with
      | nil => intro h; cases h
      | cons h0 t0 ih =>
        intro hm
        rcases List.mem_cons.mp hm with rfl | hm
        · exact ⟨_, List.mem_cons_self, h0⟩
        · obtain ⟨i, hi, e⟩ := ih hm
          exact ⟨i, List.mem_cons_of_mem _ hi, e⟩
    obtain ⟨i, hi, e⟩ := find t ha
    obtain ⟨s, e1, o1⟩ := ho j List.mem_cons_self
    obtain ⟨s', e2, o2⟩ := ho i (List.mem_cons_of_mem _ hi)
    have := k.sep j i s s' a e1 e2 o1 o2 h e
    exact nd'.1 (this ▸ hi)
theorem putR_len : ∀ {js : List Nat} {rs : List D} {δ δ' : DEnv}, putR δ js rs = some δ' → δ'.length = δ.length
  | [], [], δ, δ', e => by cases e; rfl
  | [], _ :: _, δ, δ', e => by cases e
  | _ :: _, [], δ, δ', e => by cases e
  | j :: js, d :: ds, δ, δ', e => by
    unfold putR at e
    cases q : δ[j]? with
    | none => rw [q] at e; cases e
    | some s => rw [q] at e; rw [putR_len e, List.length_set]
theorem putR_out : ∀ {js : List Nat} {rs : List D} {δ δ' : DEnv}, putR δ js rs = some δ' → ∀ i, i ∉ js → δ'[i]? = δ[i]?
  | [], [], δ, δ', e, i, hi => by cases e; rfl
  | [], _ :: _, δ, δ', e, i, hi => by cases e
  | _ :: _, [], δ, δ', e, i, hi => by cases e
  | j :: js, d :: ds, δ, δ', e, i, hi => by
    unfold putR at e
    cases q : δ[j]? with
    | none => rw [q] at e; cases e
    | some s =>
      rw [q] at e
      have h1 : i ≠ j := fun z => hi (z ▸ List.mem_cons_self)
      have h2 : i ∉ js := fun z => hi (List.mem_cons_of_mem _ z)
      rw [putR_out e i h2, List.getElem?_set_ne (Ne.symm h1)]
theorem putR_in : ∀ {js : List Nat} {as : List Addr} {rs : List D} {δ δ' : DEnv}, putR δ js rs = some δ' → js.Nodup → JsOk σ js as → RefOk K cl H G as rs → ∀ j ∈ js, ∃ s a d, δ[j]? = some s ∧ σ[j]? = some (some (.ref a)) ∧ δ'[j]? = some (s.put d) ∧ G a = none ∧ Own K cl H G a d ∧ a ∈ as
  | [], _, _, _, _, _, _, _, _ => fun j hj => by cases hj
  | j0 :: js, as, rs, δ, δ', e, nd, hj0, hr => by
    cases hj0 with
    | cons h0 t0 =>
    cases hr with
    | @cons a0 d as ds g0 w0 r0 =>
    unfold putR at e
    have nd' := List.nodup_cons.mp nd
    cases q : δ[j0]? with
    | none => rw [q] at e; cases e
    | some s =>
      rw [q] at e
      have hj0 : j0 < δ.length := (List.getElem?_eq_some_iff.mp q).1
      intro j hj
      rcases List.mem_cons.mp hj with z | hj
      · subst z
        exact ⟨s, _, d, q, h0, by rw [putR_out e _ nd'.1, List.getElem?_set_self hj0], g0, w0, List.mem_cons_self⟩
      · obtain ⟨s', a', d', q1, q2, q3, q4, q5, q6⟩ := putR_in e nd'.2 t0 r0 j hj
        have ne : j ≠ j0 := fun z => nd'.1 (z ▸ hj)
        rw [List.getElem?_set_ne (Ne.symm ne)] at q1
        exact ⟨s', a', d', q1, q2, q3, q4, q5, List.mem_cons_of_mem _ q6⟩
/-- behind a call -/
theorem Ok.called (k : Ok K cl hx R H0 G0 H G σ δ) {js : List Nat} {as : List Addr} {rs : List D} {δ' : DEnv} (f : Frm as H G H' G') (r : RefOk K cl H' G' as rs) (h : JsOk σ js as) (nd : js.Nodup) (ho : ∀ j ∈ js, ∃ s, δ[j]? = some s ∧ isO s = true) (e : putR δ js rs = some δ') :
    Ok K cl hx R H0 G0 H' G' σ δ' := by
  have inAs : ∀ {js' : List Nat} {as' : List Addr}, JsOk σ js' as' → ∀ a ∈ as', ∃ i ∈ js', σ[i]? = some (some (.ref a)) := by
    intro js' as' q
    induction q with
    | nil => intro a h; cases h
    | cons h0 t0 ih =>
      intro a hm
      rcases List.mem_cons.mp hm with rfl | hm
      · exact ⟨_, List.mem_cons_self, h0⟩
      · obtain ⟨i, hi, e⟩ := ih a hm
        exact ⟨i, List.mem_cons_of_mem _ hi, e⟩
  refine k.frame f (putR_len e) (fun i s e1 hO => ?_) (fun i s a e1 hO e2 => ?_) fun a ha => ?_
  · have hi : i ∉ js := fun hi => by
      obtain ⟨s', q1, q2⟩ := ho i hi
      rw [e1] at q1; cases q1
      rw [hO] at q2; cases q2
    rw [putR_out e i hi, e1]
  · by_cases hi : i ∈ js
    · obtain ⟨s', a', d, q1, q2, q3, q4, q5, _⟩ := putR_in e nd h r i hi
      rw [e1] at q1; cases q1
      rw [e2] at q2; cases q2
      exact ⟨d, q3, q4, q5⟩
    · obtain ⟨a', d, z, ga, w, sd⟩ := (k.sl i s _ e1 e2).ex hO
      cases z
      have nin : a ∉ as := fun ha => by
        obtain ⟨j, hj, ej⟩ := inAs h a ha
        obtain ⟨s', q1, q2⟩ := ho j hj
        exact hi (k.sep i j s s' a e1 q1 hO q2 e2 ej ▸ hj)
      obtain ⟨u, hu⟩ := w.ex
      refine ⟨d, by rw [putR_out e i hi, e1]; rcases sd with rfl | rfl <;> rfl, ?_, w.mono f.gk fun o z => f.kept a o z nin⟩
      cases q : G' a with
      | none => rfl
      | some u' =>
        rcases f.new a u' q with z | z
        · rw [ga] at z; cases z
        · rw [hu] at z; cases z
  · obtain ⟨i, hi, e2⟩ := inAs h a ha
    obtain ⟨s, q1, q2⟩ := ho i hi
    exact ⟨i, s, q1, q2, e2⟩
end
section
variable {c : Cf} {X : Cx} {CX' : CXT} {k : Nat} {f : Addr} {fd : FuncData} {ps : List Str} {sp : Sp} {x m : Str} {p pos apos : Pos} {e o : Expr} {es : List Expr} {ta : TE} {t : TA} {dvs : List V} {ds : List Value}
theorem run_fnD {E : L2.St → XK} {pins : List (Addr × Obj)} {σ : L2.St} {H : Hp} {s : Shared} {Q : VK} {us : List Value} {vs : List V} (F : FnOk X.prog X.w X.K X.mg X.base CX' k f fd ps sp) (hr : Room k X.A) (hb : Binds X.K fd ps ds) (hd : Vals dvs ds) (hx : PassesAt CX' X σ (E σ))
    (I : Inv X pins σ H s) (r : Vals vs us) (h : sp (vs ++ dvs) H Q (E σ)) : wpAny (model X.prog X.w) X.A (call (.ref f) us) (EP X pins σ Q) X.xe s := by
  have r2 : Vals (vs ++ dvs) (us ++ ds) := r.append hd
  have hl : (us ++ ds).length = ps.length := by rw [← r2.length]; exact F.len _ _ _ _ h
  refine wpAny_call (codeAny_mono (F.run X.A X.stack s H ⟨us, []⟩ (us ++ ds) (vs ++ dvs) Q (E σ) hr I.env0 (hb s us I.kIn hl) r2 h) fun r s' hq => ?_)
  cases r with
  | error e => exact hx pins H s e s' I hq
  | ok fl =>
    cases fl with
    | ret u => exact I.after hq
    | next => exact False.elim hq
    | brk => exact False.elim hq
    | cont => exact False.elim hq
def tCallD (sp : Sp) (dvs : List V) (E : L2.St → XK) (t : TA) : TE := fun σ H Q => t σ H fun vs H1 => sp (vs ++ dvs) H1 Q (E σ)
theorem pe_callD {E : L2.St → XK} (F : FnOk X.prog X.w X.K X.mg X.base CX' k f fd ps sp) (hr : Room k X.A) (hg : Gl X x) (hm : X.mg x = some (.ref f)) (hk : PySem.W.keepIn X.K (.ref f) = true) (hb : Binds X.K fd ps ds) (hd : Vals dvs ds) (hx : ∀ σ, PassesAt CX' X σ (E σ))
    (ha : PA X (e :: es) t) (hdb : (x == ("__debug__" : Str)) = false := by decide) (he : starEach (e :: es) X.env = (false, eval e X.env) :: starEach es X.env := by rfl) (hpl : (backTo pos (starEach es X.env)).any (·.1) = false := by rfl) :
    PE X (.Call (.Name x p) (e :: es) [] pos) (tCallD sp dvs E t) := by
  refine ⟨fun pins s σ H Q I h => ?_⟩
  refine wpAny_Call_Name_kw (ld_glob I hg hm ?_ hdb)
  refine PySem.W.callWith_K (h₀ := X.base) I.ok.mod.kin hk (thn (ha.run pos pins s σ H _ I h) fun us s1 ⟨vs, H1, I1, r, q⟩ => ⟨I1.kIn, ?_⟩) he hpl
  exact run_fnD F hr hb hd (hx σ) I1 r q
theorem pe_callD0 {E : L2.St → XK} (F : FnOk X.prog X.w X.K X.mg X.base CX' k f fd ps sp) (hr : Room k X.A) (hg : Gl X x) (hm : X.mg x = some (.ref f)) (hk : PySem.W.keepIn X.K (.ref f) = true) (hb : Binds X.K fd ps ds) (hd : Vals dvs ds) (hx : ∀ σ, PassesAt CX' X σ (E σ))
    (hdb : (x == ("__debug__" : Str)) = false := by decide) : PE X (.Call (.Name x p) [] [] pos) (tCallD sp dvs E tNil) := by
  refine ⟨fun pins s σ H Q I h => ?_⟩
  refine wpAny_Call_Name_kw (ld_glob I hg hm ?_ hdb)
  exact PySem.W.callWith_K0 I.kIn hk (run_fnD (us := []) F hr hb hd (hx σ) I .nil h)
/-- the reading of a call -/
theorem call_ok {ks : List Bool} {dds : List D} {fn : List D → FO} {fs : DA} (hd : ∀ G, RepL X.K c.cl G dvs dds) {R : List (Nat × Addr)} {H0 G0 H G : Hp} {σ : L2.St} {δ : DEnv} {Q : VK} {t : TA}
    (ha : ∀ (Q' : List V → Hp → Prop), EPost (c.fx X R H0 G0) c.W σ (AvL X.K c.cl σ) G (fs δ) Q' → t σ H Q')
    (h : EPost (c.fx X R H0 G0) c.W σ (relD X.K c.cl) G (dCall ks dds fn fs δ) Q) : tCallD (SpF X.K c.cl ks fn) dvs (WE c.W) t σ H Q := by
  refine ha _ (EPost.imp (EPost.bind h) fun vs H1 ⟨G1, as, δ1, s1, k1, r1, h1⟩ => ?_)
  by_cases hc : avk as ++ dds.map (fun _ => false) = ks ∧ nodupB (avj as) = true
  · rw [if_pos hc] at h1
    cases q : avd δ1 as with
    | none => rw [q] at h1; exact h1.elim
    | some es =>
      rw [q] at h1
      have a1 := args_ok k1 r1 q
      have hl := (hd G1).length
      have a2 := args_def a1 (hd G1)
      have e2 : refA (vs ++ dvs) ks = refA vs (avk as) := by rw [← hc.1]; exact refA_def a1 dds hl
      obtain ⟨j1, j2⟩ := js_ok k1 r1 q
      have nd := nodupB_ok hc.2
      rw [hc.1] at a2
      refine ⟨G1, es ++ dds, k1.sub, a2, by rw [e2]; exact js_nodup k1 j1 nd j2, ?_⟩
      cases qf : fn (es ++ dds) with
      | st => simp only [qf] at h1; exact h1.elim
      | ret d rs =>
        simp only [qf] at h1
        intro v H' G' fr ro rv
        rw [e2] at fr ro
        cases qp : putR δ1 (avj as) rs with
        | none => simp only [qp] at h1; exact h1.elim
        | some δ2 =>
          simp only [qp] at h1
          exact h1 v H' G' fr.gk (k1.called fr ro j1 nd j2 qp) rv
      | new d rs =>
        simp only [qf] at h1
        intro a H' G' fr ro na ga ow
        rw [e2] at fr ro
        cases qp : putR δ1 (avj as) rs with
        | none => simp only [qp] at h1; exact h1.elim
        | some δ2 =>
          simp only [qp] at h1
          have k2 := k1.called fr ro j1 nd j2 qp
          obtain ⟨G2, s2, r2, k3⟩ := k2.freezeNew ga (k1.freshH0 na) ow fun j t e o => by
            have hl2 := putR_len qp
            have hj : j < δ1.length := by rw [← hl2]; exact (List.getElem?_eq_some_iff.mp e).1
            intro z
            have e0 := List.getElem?_eq_getElem hj
            cases hO : isO δ1[j] with
            | true => exact k1.freshSl na e0 hO z
            | false =>
              have nj : j ∉ avj as := fun hm => by
                obtain ⟨s', q1, q2⟩ := j2 j hm
                rw [e0] at q1; cases q1
                rw [hO] at q2; cases q2
              rw [putR_out qp j nj, e0] at e
              cases e
              rw [hO] at o; cases o
          exact h1 (.ref a) H' G2 (fr.gk.trans s2) k3 r2
      | ex cn ns es' rs =>
        simp only [qf] at h1
        intro cls dd H' G' fr ro xo
        rw [e2] at fr ro
        cases qp : putR δ1 (avj as) rs with
        | none => simp only [qp] at h1; exact h1.elim
        | some δ2 =>
          simp only [qp] at h1
          exact h1 cls dd H' G' fr.gk (k1.called fr ro j1 nd j2 qp) xo
  · rw [if_neg hc] at h1; exact h1.elim
/-- the same, the answer a new object -/
def dCallO (ks : List Bool) (dvs : List D) (fn : List D → FO) (fs : DA) : DE := fun δ => (fs δ).bind fun as δ1 =>
  if avk as ++ dvs.map (fun _ => false) = ks ∧ nodupB (avj as) = true then
    match avd δ1 as with
    | none => .st
    | some ds => match fn (ds ++ dvs) with
      | .ret _ _ => .st
      | .new d rs => match putR δ1 (avj as) rs with | some δ2 => .ok d δ2 | none => .st
      | .ex c ns es rs => match putR δ1 (avj as) rs with | some δ2 => .ex c ns es δ2 | none => .st
      | .st => .st
  else .st
theorem callO_ok {ks : List Bool} {dds : List D} {fn : List D → FO} {fs : DA} (hd : ∀ G, RepL X.K c.cl G dvs dds) {R : List (Nat × Addr)} {H0 G0 H G : Hp} {σ : L2.St} {δ : DEnv} {Q : VK} {t : TA}
    (ha : ∀ (Q' : List V → Hp → Prop), EPost (c.fx X R H0 G0) c.W σ (AvL X.K c.cl σ) G (fs δ) Q' → t σ H Q')
    (h : FPost (c.fx X R H0 G0) c.W σ G (dCallO ks dds fn fs δ) Q) : tCallD (SpF X.K c.cl ks fn) dvs (WE c.W) t σ H Q := by
  refine ha _ (EPost.imp (FPost.bind (rel := fun _ _ _ => True) h) fun vs H1 ⟨G1, as, δ1, s1, k1, r1, h1⟩ => ?_)
  by_cases hc : avk as ++ dds.map (fun _ => false) = ks ∧ nodupB (avj as) = true
  · rw [if_pos hc] at h1
    cases q : avd δ1 as with
    | none => rw [q] at h1; exact h1.elim
    | some es =>
      rw [q] at h1
      have a1 := args_ok k1 r1 q
      have hl := (hd G1).length
      have a2 := args_def a1 (hd G1)
      have e2 : refA (vs ++ dvs) ks = refA vs (avk as) := by rw [← hc.1]; exact refA_def a1 dds hl
      obtain ⟨j1, j2⟩ := js_ok k1 r1 q
      have nd := nodupB_ok hc.2
      rw [hc.1] at a2
      refine ⟨G1, es ++ dds, k1.sub, a2, by rw [e2]; exact js_nodup k1 j1 nd j2, ?_⟩
      cases qf : fn (es ++ dds) with
      | st => simp only [qf] at h1; exact h1.elim
      | ret d rs => simp only [qf] at h1; exact h1.elim
      | new d rs =>
        simp only [qf] at h1
        intro a H' G' fr ro na ga ow
        rw [e2] at fr ro
        cases qp : putR δ1 (avj as) rs with
        | none => simp only [qp] at h1; exact h1.elim
        | some δ2 =>
          simp only [qp] at h1
          have k2 := k1.called fr ro j1 nd j2 qp
          refine h1 a H' G' fr.gk k2 ga (k1.freshH0 na) ow fun j t e o => ?_
          have hl2 := putR_len qp
          have hj : j < δ1.length := by rw [← hl2]; exact (List.getElem?_eq_some_iff.mp e).1
          intro z
          have e0 := List.getElem?_eq_getElem hj
          cases hO : isO δ1[j] with
          | true => exact k1.freshSl na e0 hO z
          | false =>
            have nj : j ∉ avj as := fun hm => by
              obtain ⟨s', q1, q2⟩ := j2 j hm
              rw [e0] at q1; cases q1
              rw [hO] at q2; cases q2
            rw [putR_out qp j nj, e0] at e
            cases e
            rw [hO] at o; cases o
      | ex cn ns es' rs =>
        simp only [qf] at h1
        intro cls dd H' G' fr ro xo
        rw [e2] at fr ro
        cases qp : putR δ1 (avj as) rs with
        | none => simp only [qp] at h1; exact h1.elim
        | some δ2 =>
          simp only [qp] at h1
          exact h1 cls dd H' G' fr.gk (k1.called fr ro j1 nd j2 qp) xo
  · rw [if_neg hc] at h1; exact h1.elim
/-- what stands for a def: at f, its promise, how it binds -/
structure DefOk (P : Program) (w : World) (K : PySem.W.Frag) (mg : Str → Option Value) (base : Heap) (cl : Cw) (k : Nat) (x : Str) (ks : List Bool) (fn : List D → FO) (f : Addr) (fd : FuncData) (ps : List Str) : Prop where
  ok : FnOk P w K mg base (L2.CX P w) k f fd ps (SpF K cl ks fn)
  mg : mg x = some (.ref f)
  kp : PySem.W.keepIn K (.ref f) = true
theorem je_call {ks : List Bool} {dds : List D} {fn : List D → FO} {fs : DA} (F : DefOk X.prog X.w X.K X.mg X.base c.cl k x ks fn f fd ps) (hr : Room k X.A) (tk : Takes X c.W) (hg : Gl X x) (hb : Binds X.K fd ps ds) (hv : Vals dvs ds) (hd : ∀ G, RepL X.K c.cl G dvs dds)
    (ha : JA c X (e :: es) fs) (hdb : (x == ("__debug__" : Str)) = false := by decide) (he : starEach (e :: es) X.env = (false, eval e X.env) :: starEach es X.env := by rfl) (hpl : (backTo pos (starEach es X.env)).any (·.1) = false := by rfl) :
    JE c X (.Call (.Name x p) (e :: es) [] pos) (dCall ks dds fn fs) :=
  je_of (pe_callD F.ok hr hg F.mg F.kp hb hv (fun σ => passAt tk σ) (paS X (e :: es)) hdb he hpl) fun R H0 G0 H G σ δ Q k h => call_ok hd (fun Q' h' => ha R H0 G0 H G σ δ Q' k h') h
theorem jf_call {ks : List Bool} {dds : List D} {fn : List D → FO} {fs : DA} (F : DefOk X.prog X.w X.K X.mg X.base c.cl k x ks fn f fd ps) (hr : Room k X.A) (tk : Takes X c.W) (hg : Gl X x) (hb : Binds X.K fd ps ds) (hv : Vals dvs ds) (hd : ∀ G, RepL X.K c.cl G dvs dds)
    (ha : JA c X (e :: es) fs) (hdb : (x == ("__debug__" : Str)) = false := by decide) (he : starEach (e :: es) X.env = (false, eval e X.env) :: starEach es X.env := by rfl) (hpl : (backTo pos (starEach es X.env)).any (·.1) = false := by rfl) :
    JF c X (.Call (.Name x p) (e :: es) [] pos) (dCallO ks dds fn fs) := fun R H0 G0 H G σ δ Q k h pins s I =>
  (pe_callD F.ok hr hg F.mg F.kp hb hv (fun σ => passAt tk σ) (paS X (e :: es)) hdb he hpl).run pins s σ H Q I (callO_ok hd (fun Q' h' => ha R H0 G0 H G σ δ Q' k h') h)
theorem DefOk.mono {P : Program} {w : World} {K : PySem.W.Frag} {mg : Str → Option Value} {base : Heap} {cl : Cw} {j k : Nat} {x : Str} {ks : List Bool} {fn : List D → FO} {f : Addr} {fd : FuncData} {ps : List Str} (F : DefOk P w K mg base cl j x ks fn f fd ps) (h : j ≤ k) : DefOk P w K mg base cl k x ks fn f fd ps := ⟨F.ok.mono h, F.mg, F.kp⟩
theorem je_call0 {ks : List Bool} {dds : List D} {fn : List D → FO} (F : DefOk X.prog X.w X.K X.mg X.base c.cl k x ks fn f fd ps) (hr : Room k X.A) (tk : Takes X c.W) (hg : Gl X x) (hb : Binds X.K fd ps ds) (hv : Vals dvs ds) (hd : ∀ G, RepL X.K c.cl G dvs dds)
    (hdb : (x == ("__debug__" : Str)) = false := by decide) : JE c X (.Call (.Name x p) [] [] pos) (dCall ks dds fn dNil) :=
  je_of (pe_callD0 F.ok hr hg F.mg F.kp hb hv (fun σ => passAt tk σ) hdb) fun R H0 G0 H G σ δ Q k h => call_ok hd (fs := dNil) (fun Q' (h' : ∀ b H' G', _ → _ → _ → _) => h' [] H G (.refl G) k .nil) h
end
end DL

set_option maxRecDepth 100000
set_option maxHeartbeats 4000000
namespace DL
open PySem PySem.Spec PyProof.Rows L2

/-! ### statements -/
def SPost (f : Fx) (W : WX) (G : Hp) (o : SO) (D' : Ends) : Prop := match o with
  | .nx δ => ∀ σ' H' G', Sub G G' → f.Ok H' G' σ' δ → D'.nx σ' H'
  | .rt d δ => ∀ v σ' H' G', Sub G G' → f.Ok H' G' σ' δ → Rep f.K f.cl G' v d → D'.rt v H'
  | .ro d δ => ∀ a σ' H' G', Sub G G' → f.Ok H' G' σ' δ → f.H0 a = none → G' a = none → Own f.K f.cl H' G' a d → D'.rt (.ref a) H'
  | .bk δ => ∀ σ' H' G', Sub G G' → f.Ok H' G' σ' δ → D'.bk σ' H'
  | .ct δ => ∀ σ' H' G', Sub G G' → f.Ok H' G' σ' δ → D'.ct σ' H'
  | .ex c ns ds δ => ∀ cls dd σ' H' G', Sub G G' → f.Ok H' G' σ' δ → XOk f.K f.cl G' c ns ds cls dd → W cls dd σ' H'
  | .st => False
theorem SPost.weak {f : Fx} {W : WX} {G G' : Hp} {o : SO} {D' : Ends} (s : Sub G G') (h : SPost f W G o D') : SPost f W G' o D' := by
  cases o with
  | nx δ => exact fun σ' H' G'' s' => h σ' H' G'' (s.trans s')
  | rt d δ => exact fun v σ' H' G'' s' => h v σ' H' G'' (s.trans s')
  | ro d δ => exact fun a σ' H' G'' s' => h a σ' H' G'' (s.trans s')
  | bk δ => exact fun σ' H' G'' s' => h σ' H' G'' (s.trans s')
  | ct δ => exact fun σ' H' G'' s' => h σ' H' G'' (s.trans s')
  | ex c ns ds δ => exact fun cls dd σ' H' G'' s' => h cls dd σ' H' G'' (s.trans s')
  | st => exact h
def JS (c : Cf) (X : Cx) (st : Stmt) (F : DS) : Prop := ∀ (R : List (Nat × Addr)) (H0 G0 H G : Hp) (σ : L2.St) (δ : DEnv) (D' : Ends), (c.fx X R H0 G0).Ok H G σ δ → SPost (c.fx X R H0 G0) c.W G (F δ) D' → tS X st D' σ H
def JSs (c : Cf) (X : Cx) (st : List Stmt) (F : DS) : Prop := ∀ (R : List (Nat × Addr)) (H0 G0 H G : Hp) (σ : L2.St) (δ : DEnv) (D' : Ends), (c.fx X R H0 G0).Ok H G σ δ → SPost (c.fx X R H0 G0) c.W G (F δ) D' → tSs X st D' σ H
def EO.to {α : Type} (o : EO α) (k : α → DEnv → SO) : SO := match o with
  | .ok a δ => k a δ
  | .ex c ns ds δ => .ex c ns ds δ
  | .st => .st
def SO.then (o : SO) (k : DEnv → SO) : SO := match o with
  | .nx δ => k δ
  | o => o
theorem SPost.ofE {α β : Type} {f : Fx} {W : WX} {σ : L2.St} {rel : Hp → β → α → Prop} {G : Hp} {o : EO α} {k : α → DEnv → SO} {D' : Ends} (h : SPost f W G (o.to k) D') :
    EPost f W σ rel G o (fun b H1 => ∃ G1 a δ1, Sub G G1 ∧ f.Ok H1 G1 σ δ1 ∧ rel G1 b a ∧ SPost f W G1 (k a δ1) D') := by
  cases o with
  | ok a δ => exact fun b H' G' s k' r => ⟨G', a, δ, s, k', r, SPost.weak s h⟩
  | ex c ns ds δ => exact fun cls dd H' G' s k' x => h cls dd σ H' G' s k' x
  | st => exact h
theorem SPost.ofF {f : Fx} {W : WX} {σ : L2.St} {G : Hp} {o : EO D} {k : D → DEnv → SO} {D' : Ends} (h : SPost f W G (o.to k) D') :
    FPost f W σ G o (fun v H1 => ∃ a G1 d δ1, v = .ref a ∧ Sub G G1 ∧ f.Ok H1 G1 σ δ1 ∧ G1 a = none ∧ f.H0 a = none ∧ Own f.K f.cl H1 G1 a d ∧ (∀ (j : Nat) (t : Sl), δ1[j]? = some t → isO t = true → σ[j]? ≠ some (some (.ref a))) ∧ SPost f W G1 (k d δ1) D') := by
  cases o with
  | ok d δ => exact fun a H' G' s k' ga h0 w hs => ⟨a, G', d, δ, rfl, s, k', ga, h0, w, hs, SPost.weak s h⟩
  | ex c ns ds δ => exact fun cls dd H' G' s k' x => h cls dd σ H' G' s k' x
  | st => exact h
def sNil : DS := fun δ => .nx δ
def sSeq (f g : DS) : DS := fun δ => (f δ).then g
def sExpr (f : DE) : DS := fun δ => (f δ).to fun _ δ1 => .nx δ1
def sRet (f : DE) : DS := fun δ => (f δ).to fun d δ1 => .rt d δ1
def sRetO (f : DE) : DS := fun δ => (f δ).to fun d δ1 => .ro d δ1
def sRetN : DS := fun δ => .rt .non δ
def sIf (t : DT) (f g : DS) : DS := fun δ => (t δ).to fun b δ1 => if b = true then f δ1 else g δ1
/-- a plain value into slot i -/
def setV (i : Nat) (d : D) (δ : DEnv) : Option DEnv := match δ[i]? with
  | some (.rf _) => none
  | some _ => some (δ.set i (.val d))
  | none => none
def setO (i : Nat) (d : D) (δ : DEnv) : Option DEnv := match δ[i]? with
  | some (.rf _) => none
  | some _ => some (δ.set i (.own d))
  | none => none
def oNx : Option DEnv → SO
  | some δ => .nx δ
  | none => .st
def sSet (i : Nat) (f : DE) : DS := fun δ => (f δ).to fun d δ1 => oNx (setV i d δ1)
def sSetO (i : Nat) (f : DE) : DS := fun δ => (f δ).to fun d δ1 => oNx (setO i d δ1)
section
variable {K : PySem.W.Frag} {cl : Cw} {hx : Addr × Option Addr} {R : List (Nat × Addr)} {H0 G0 H G H' G' : Hp} {σ : L2.St} {δ : DEnv}
theorem Ok.setV (k : Ok K cl hx R H0 G0 H G σ δ) {i : Nat} {v : V} {d : D} {δ' : DEnv} (e : DL.setV i d δ = some δ') (r : Rep K cl G v d) : Ok K cl hx R H0 G0 H G (σ.set i (some v)) δ' := by
  unfold DL.setV at e
  cases q : δ[i]? with
  | none => rw [q] at e; cases e
  | some s =>
    rw [q] at e
    have go : (∀ d, s ≠ .rf d) → some (δ.set i (.val d)) = some δ' → Ok K cl hx R H0 G0 H G (σ.set i (some v)) δ' := fun hn e => by
      cases e
      exact k.set q hn ⟨v, rfl, r⟩ (fun d z => nomatch z) (fun a o _ => nomatch o)
    cases s with
    | rf d => cases e
    | un => exact go (fun d z => nomatch z) e
    | val d => exact go (fun d z => nomatch z) e
    | own d => exact go (fun d z => nomatch z) e
    | exc c ns ds => exact go (fun d z => nomatch z) e
theorem Ok.setO (k : Ok K cl hx R H0 G0 H G σ δ) {i : Nat} {a : Addr} {d : D} {δ' : DEnv} (e : DL.setO i d δ = some δ') (ga : G a = none) (h0 : H0 a = none) (w : Own K cl H G a d)
    (hs : ∀ (j : Nat) (t : Sl), δ[j]? = some t → isO t = true → σ[j]? ≠ some (some (.ref a))) : Ok K cl hx R H0 G0 H G (σ.set i (some (.ref a))) δ' := by
  unfold DL.setO at e
  cases q : δ[i]? with
  | none => rw [q] at e; cases e
  | some s =>
    rw [q] at e
    have go : (∀ d, s ≠ .rf d) → some (δ.set i (.own d)) = some δ' → Ok K cl hx R H0 G0 H G (σ.set i (some (.ref a))) δ' := fun hn e => by
      cases e
      exact k.set q hn ⟨a, rfl, ga, h0, w⟩ (fun d z => nomatch z) (fun b o z j t e1 o1 => by cases z; exact hs j t e1 o1)
    cases s with
    | rf d => cases e
    | un => exact go (fun d z => nomatch z) e
    | val d => exact go (fun d z => nomatch z) e
    | own d => exact go (fun d z => nomatch z) e
    | exc c ns ds => exact go (fun d z => nomatch z) e
end
section
variable {c : Cf} {X : Cx} {st : Stmt} {rest : List Stmt} {f g : DS} {e : Expr} {fe : DE} {ft : DT} {pos : Pos}
theorem js_of {t : TS} {F : DS} (p : PS X st t) (h : ∀ (R : List (Nat × Addr)) (H0 G0 H G : Hp) (σ : L2.St) (δ : DEnv) (D' : Ends), (c.fx X R H0 G0).Ok H G σ δ → SPost (c.fx X R H0 G0) c.W G (F δ) D' → t D' σ H) : JS c X st F :=
  fun R H0 G0 H G σ δ D' k h' pins s I => p.run pins s σ H D' I (h R H0 G0 H G σ δ D' k h')
theorem jss_of {sts : List Stmt} {t : TS} {F : DS} (p : PSs X sts t) (h : ∀ (R : List (Nat × Addr)) (H0 G0 H G : Hp) (σ : L2.St) (δ : DEnv) (D' : Ends), (c.fx X R H0 G0).Ok H G σ δ → SPost (c.fx X R H0 G0) c.W G (F δ) D' → t D' σ H) : JSs c X sts F :=
  fun R H0 G0 H G σ δ D' k h' pins s I => p.run pins s σ H D' I (h R H0 G0 H G σ δ D' k h')
theorem jss_nil : JSs c X [] sNil := jss_of pss_nil fun R H0 G0 H G σ δ D' k h => h σ H G (.refl G) k
theorem jss_cons (h1 : JS c X st f) (h2 : JSs c X rest g) : JSs c X (st :: rest) (sSeq f g) := by
  refine jss_of (pss_cons (psS X st) (pssS X rest)) fun R H0 G0 H G σ δ D' k h => ?_
  refine h1 R H0 G0 H G σ δ _ k ?_
  have h : SPost (c.fx X R H0 G0) c.W G ((f δ).then g) D' := h
  cases q : f δ with
  | nx δ1 =>
    rw [q] at h
    intro σ' H' G' s k'
    exact h2 R H0 G0 H' G' σ' δ1 D' k' (SPost.weak s h)
  | rt d δ1 => rw [q] at h; exact h
  | ro d δ1 => rw [q] at h; exact h
  | bk δ1 => rw [q] at h; exact h
  | ct δ1 => rw [q] at h; exact h
  | ex cn ns ds δ1 => rw [q] at h; exact h
  | st => rw [q] at h; exact h
theorem jss_one (h1 : JS c X st f) : JSs c X [st] f := jss_of (pss_one (psS X st)) fun R H0 G0 H G σ δ D' k h => h1 R H0 G0 H G σ δ D' k h
theorem js_expr (he : JE c X e fe) (hs : swapsWith e none pos.line X.env = pure false := by rfl) : JS c X (.Expr e pos) (sExpr fe) :=
  js_of (ps_expr (peS X e) hs) fun R H0 G0 H G σ δ D' k h => he R H0 G0 H G σ δ _ k (EPost.imp (SPost.ofE h) fun x H1 ⟨G1, d, δ1, s1, k1, r1, h1⟩ => h1 σ H1 G1 (.refl G1) k1)
theorem js_ret (he : JE c X e fe) : JS c X (.Return (some e) pos) (sRet fe) :=
  js_of (ps_ret (peS X e)) fun R H0 G0 H G σ δ D' k h => he R H0 G0 H G σ δ _ k (EPost.imp (SPost.ofE h) fun x H1 ⟨G1, d, δ1, s1, k1, r1, h1⟩ => h1 x σ H1 G1 (.refl G1) k1 r1)
theorem js_retO (he : JF c X e fe) : JS c X (.Return (some e) pos) (sRetO fe) :=
  js_of (ps_ret (peS X e)) fun R H0 G0 H G σ δ D' k h => he R H0 G0 H G σ δ _ k (by
    have h' := SPost.ofF (σ := σ) h
    cases q : fe δ with
    | st => rw [q] at h'; exact h'
    | ex cn ns ds δ1 => rw [q] at h'; exact h'
    | ok d δ1 =>
      rw [q] at h'
      intro a H1 G1 s1 k1 ga h0 w hs'
      obtain ⟨a', G2, d', δ2, ea, s2, k2, ga2, h02, w2, hs2, h1⟩ := h' a H1 G1 s1 k1 ga h0 w hs'
      cases ea
      exact h1 a σ H1 G2 (.refl G2) k2 h02 ga2 w2)
theorem js_if {t : Expr} {a b : List Stmt} (ht : JT c X t ft) (ha : JSs c X a f) (hb : JSs c X b g) : JS c X (.If t a b pos) (sIf ft f g) := by
  refine js_of (ps_if (ptS X t) (pssS X a) (pssS X b)) fun R H0 G0 H G σ δ D' k h => ?_
  refine ht R H0 G0 H G σ δ _ k (EPost.imp (SPost.ofE h) fun x H1 ⟨G1, b', δ1, s1, k1, r1, h1⟩ => ?_)
  have r1 : x = b' := r1
  subst r1
  cases x with
  | true => exact ha R H0 G0 H1 G1 σ δ1 D' k1 h1
  | false => exact hb R H0 G0 H1 G1 σ δ1 D' k1 h1
theorem js_set {i : Nat} {x : Str} {pos' : Pos} (hN : X.N.Nodup) (hi : X.N[i]? = some x) (hx : Loc X.env.scope x) (he : JE c X e fe) (hs : swapsWith e (some (.Name x pos')) pos.line X.env = pure false := by rfl)
    (hf : X.fn x = true ∨ X.env.scope.names.lookup x = some .local := by first | exact .inl rfl | exact .inr rfl | assumption) : JS c X (.Assign [.Name x pos'] e pos) (sSet i fe) :=
  js_of (ps_set hN hi hx (peS X e) hs hf) fun R H0 G0 H G σ δ D' k h => he R H0 G0 H G σ δ _ k (EPost.imp (SPost.ofE h) fun v H1 ⟨G1, d, δ1, s1, k1, r1, h1⟩ => by
    cases q : setV i d δ1 with
    | none => rw [q] at h1; exact h1.elim
    | some δ2 => rw [q] at h1; exact h1 _ H1 G1 (.refl G1) (k1.setV q r1))
theorem js_setO {i : Nat} {x : Str} {pos' : Pos} (hN : X.N.Nodup) (hi : X.N[i]? = some x) (hx : Loc X.env.scope x) (he : JF c X e fe) (hs : swapsWith e (some (.Name x pos')) pos.line X.env = pure false := by rfl)
    (hf : X.fn x = true ∨ X.env.scope.names.lookup x = some .local := by first | exact .inl rfl | exact .inr rfl | assumption) : JS c X (.Assign [.Name x pos'] e pos) (sSetO i fe) :=
  js_of (ps_set hN hi hx (peS X e) hs hf) fun R H0 G0 H G σ δ D' k h => he R H0 G0 H G σ δ _ k (by
    have h' := SPost.ofF (σ := σ) h
    cases q : fe δ with
    | st => rw [q] at h'; exact h'
    | ex cn ns ds δ1 => rw [q] at h'; exact h'
    | ok d δ1 =>
      rw [q] at h'
      intro a H1 G1 s1 k1 ga h0 w hs'
      obtain ⟨a', G2, d', δ2, ea, s2, k2, ga2, h02, w2, hs2, h1⟩ := h' a H1 G1 s1 k1 ga h0 w hs'
      cases ea
      cases q2 : setO i d' δ2 with
      | none => rw [q2] at h1; exact h1.elim
      | some δ3 => rw [q2] at h1; exact h1 _ H1 G2 (.refl G2) (k2.setO q2 ga2 h02 w2 hs2))
end

/-! ### a def by its body -/
def mkEnv : List Bool → List D → Nat → DEnv
  | true :: ks, d :: ds, n => .rf d :: mkEnv ks ds (n - 1)
  | false :: ks, d :: ds, n => .val d :: mkEnv ks ds (n - 1)
  | _, _, n => List.replicate n .un
def endR : List Bool → DEnv → Option (List D)
  | true :: ks, s :: δ => (endR ks δ).bind fun r => (s.cont).map fun d => d :: r
  | false :: ks, _ :: δ => endR ks δ
  | [], _ => some []
  | _ :: _, [] => none
def toFO (ks : List Bool) : SO → FO
  | .nx δ => match endR ks δ with | some rs => .ret .non rs | none => .st
  | .rt d δ => match endR ks δ with | some rs => .ret d rs | none => .st
  | .ro d δ => match endR ks δ with | some rs => .new d rs | none => .st
  | .ex c ns ds δ => match endR ks δ with | some rs => .ex c ns ds rs | none => .st
  | _ => .st
/-- the def's function: n names -/
def defF (ks : List Bool) (n : Nat) (F : DS) (ds : List D) : FO := if ds.length = ks.length then toFO ks (F (mkEnv ks ds n)) else .st
/-- the by-reference parameters' slots, from slot i on -/
def refS : List V → List Bool → Nat → List (Nat × Addr)
  | .ref a :: vs, true :: ks, i => (i, a) :: refS vs ks (i + 1)
  | _ :: vs, _ :: ks, i => refS vs ks (i + 1)
  | _, _, _ => []
section
variable {K : PySem.W.Frag} {cl : Cw} {hx : Addr × Option Addr} {H G : Hp}
theorem refS_addr : ∀ {vs : List V} {ks : List Bool} {i : Nat}, (refS vs ks i).map (·.2) = refA vs ks
  | [], [], i => rfl
  | [], k :: ks, i => by cases k <;> rfl
  | v :: vs, [], i => by cases v <;> rfl
  | v :: vs, k :: ks, i => by
    have ih := refS_addr (vs := vs) (ks := ks) (i := i + 1)
    cases k with
    | true =>
      cases v with
      | ref a => show a :: _ = a :: _; rw [ih]
      | _ => exact ih
    | false => cases v <;> exact ih
/-- the state at the entry, from slot i on -/
theorem entry : ∀ {vs : List V} {ks : List Bool} {ds : List D}, ArgOk K cl H G vs ks ds → ∀ (n : Nat), ks.length ≤ n →
    (vs.map some ++ List.replicate (n - vs.length) (none : Option V)).length = (mkEnv ks ds n).length ∧
    (∀ (j : Nat) (s : Sl) (x : Option V), (mkEnv ks ds n)[j]? = some s → (vs.map some ++ List.replicate (n - vs.length) (none : Option V))[j]? = some x → SlOk K cl hx H H G x s ∧ (isO s = true → ∃ a d, s = .rf d ∧ x = some (.ref a) ∧ ∀ i, (i + j, a) ∈ refS vs ks i)) ∧
    (∀ i p, p ∈ refS vs ks i → i ≤ p.1 ∧ H p.2 ≠ none ∧ G p.2 = none ∧ ∃ d, (mkEnv ks ds n)[p.1 - i]? = some (.rf d) ∧ (vs.map some ++ List.replicate (n - vs.length) (none : Option V))[p.1 - i]? = some (some (.ref p.2)))
  | _, _, _, .nil, n, hn => by
    refine ⟨by simp [mkEnv], fun j s x e1 e2 => ?_, fun i p hp => by cases hp⟩
    have e1 : (List.replicate n Sl.un)[j]? = some s := e1
    rw [List.getElem?_replicate] at e1
    split at e1
    · cases e1; exact ⟨trivial, fun z => nomatch z⟩
    · cases e1
  | _, _, _, .val (v := v) (d := d) (vs := vs) (ks := ks) (ds := ds) h t, n, hn => by
    have hn' : ks.length ≤ n - 1 := by simp only [List.length_cons] at hn; omega
    obtain ⟨i1, i2, i3⟩ := entry t (n - 1) hn'
    have e0 : n - (v :: vs).length = n - 1 - vs.length := by simp only [List.length_cons]; omega
    rw [e0]
    refine ⟨by simpa [mkEnv] using i1, fun j s x e1 e2 => ?_, fun i p hp => ?_⟩
    · cases j with
      | zero =>
        have e1 : some (Sl.val d) = some s := e1
        have e2 : some (some v) = some x := e2
        cases e1; cases e2
        exact ⟨⟨v, rfl, h⟩, fun z => nomatch z⟩
      | succ j =>
        obtain ⟨q1, q2⟩ := i2 j s x (by simpa [mkEnv] using e1) (by simpa using e2)
        refine ⟨q1, fun z => ?_⟩
        obtain ⟨a, d', y1, y2, y3⟩ := q2 z
        refine ⟨a, d', y1, y2, fun i => ?_⟩
        have := y3 (i + 1)
        rw [show i + (j + 1) = i + 1 + j by omega]
        cases v <;> exact this
    · have hp' : p ∈ refS vs ks (i + 1) := by cases v <;> exact hp
      obtain ⟨q1, q2, q3, d', q4, q5⟩ := i3 (i + 1) p hp'
      refine ⟨by omega, q2, q3, d', ?_, ?_⟩
      · rw [show p.1 - i = (p.1 - (i + 1)) + 1 by omega]; simpa [mkEnv] using q4
      · rw [show p.1 - i = (p.1 - (i + 1)) + 1 by omega]; simpa using q5
  | _, _, _, .rf (a := a) (d := d) (vs := vs) (ks := ks) (ds := ds) ga w t, n, hn => by
    have hn' : ks.length ≤ n - 1 := by simp only [List.length_cons] at hn; omega
    obtain ⟨i1, i2, i3⟩ := entry t (n - 1) hn'
    have e0 : n - (V.ref a :: vs).length = n - 1 - vs.length := by simp only [List.length_cons]; omega
    rw [e0]
    refine ⟨by simpa [mkEnv] using i1, fun j s x e1 e2 => ?_, fun i p hp => ?_⟩
    · cases j with
      | zero =>
        have e1 : some (Sl.rf d) = some s := e1
        have e2 : some (some (V.ref a)) = some x := e2
        cases e1; cases e2
        exact ⟨⟨a, rfl, ga, w⟩, fun z => ⟨a, d, rfl, rfl, fun i => List.mem_cons_self⟩⟩
      | succ j =>
        obtain ⟨q1, q2⟩ := i2 j s x (by simpa [mkEnv] using e1) (by simpa using e2)
        refine ⟨q1, fun z => ?_⟩
        obtain ⟨a', d', y1, y2, y3⟩ := q2 z
        refine ⟨a', d', y1, y2, fun i => ?_⟩
        have := y3 (i + 1)
        rw [show i + (j + 1) = i + 1 + j by omega]
        exact List.mem_cons_of_mem _ this
    · rcases List.mem_cons.mp (show p ∈ (i, a) :: refS vs ks (i + 1) from hp) with rfl | hp'
      · obtain ⟨u, hu⟩ := w.ex
        refine ⟨Nat.le_refl _, (by show H a ≠ none; rw [hu]; simp), ga, d, ?_, ?_⟩
        · rw [Nat.sub_self]; rfl
        · rw [Nat.sub_self]; rfl
      · obtain ⟨q1, q2, q3, d', q4, q5⟩ := i3 (i + 1) p hp'
        refine ⟨by omega, q2, q3, d', ?_, ?_⟩
        · rw [show p.1 - i = (p.1 - (i + 1)) + 1 by omega]; simpa [mkEnv] using q4
        · rw [show p.1 - i = (p.1 - (i + 1)) + 1 by omega]; simpa using q5
theorem refS_uniq : ∀ {vs : List V} {ks : List Bool} {i : Nat}, (refA vs ks).Nodup → ∀ {p q : Nat × Addr}, p ∈ refS vs ks i → q ∈ refS vs ks i → p.2 = q.2 → p.1 = q.1
  | [], ks, i, _, p, q, h, _, _ => by cases ks <;> cases h
  | v :: vs, [], i, _, p, q, h, _, _ => by cases v <;> cases h
  | v :: vs, k :: ks, i, nd, p, q, hp, hq, e => by
    have sk : refS (v :: vs) (k :: ks) i = refS vs ks (i + 1) → refA (v :: vs) (k :: ks) = refA vs ks → p.1 = q.1 := fun z1 z2 => by
      rw [z1] at hp hq; rw [z2] at nd
      exact refS_uniq nd hp hq e
    cases k with
    | true =>
      cases v with
      | ref a =>
        have nd' := List.nodup_cons.mp (show (a :: refA vs ks).Nodup from nd)
        have mem : ∀ {r : Nat × Addr}, r ∈ refS vs ks (i + 1) → r.2 ∈ refA vs ks := fun {r} hr => by rw [← refS_addr (i := i + 1)]; exact List.mem_map_of_mem hr
        rcases List.mem_cons.mp (show p ∈ (i, a) :: refS vs ks (i + 1) from hp) with rfl | hp
        · rcases List.mem_cons.mp (show q ∈ (i, a) :: refS vs ks (i + 1) from hq) with rfl | hq
          · rfl
          · have z := mem hq; rw [← show a = q.2 from e] at z; exact absurd z nd'.1
        · rcases List.mem_cons.mp (show q ∈ (i, a) :: refS vs ks (i + 1) from hq) with rfl | hq
          · have z := mem hp; rw [show p.2 = a from e] at z; exact absurd z nd'.1
          · exact refS_uniq nd'.2 hp hq e
      | _ => exact sk rfl rfl
    | false => cases v <;> exact sk rfl rfl
theorem entry_ok {vs : List V} {ks : List Bool} {ds : List D} (s : Sub G H) (h : ArgOk K cl H G vs ks ds) (nd : (refA vs ks).Nodup) {n : Nat} (hn : ks.length ≤ n) :
    Ok K cl hx (refS vs ks 0) H G H G (vs.map some ++ List.replicate (n - vs.length) (none : Option V)) (mkEnv ks ds n) := by
  obtain ⟨i1, i2, i3⟩ := entry (hx := hx) h n hn
  refine ⟨i1, s, .refl G, fun b o e => .inl e, fun b o e _ => e, fun p hp => ?_, fun i s x e1 e2 => (i2 i s x e1 e2).1, fun i j s t a e1 e2 o1 o2 s1 s2 => ?_, fun p hp => ?_, fun i d e => ?_⟩
  · obtain ⟨_, q2, q3, _⟩ := i3 0 p hp
    exact ⟨q2, q3⟩
  · obtain ⟨a1, d1, _, z1, m1⟩ := (i2 i s _ e1 s1).2 o1
    obtain ⟨a2, d2, _, z2, m2⟩ := (i2 j t _ e2 s2).2 o2
    cases z1; cases z2
    have := refS_uniq nd (m1 0) (m2 0) rfl
    simpa using this
  · obtain ⟨_, _, _, d, q4, q5⟩ := i3 0 p hp
    exact ⟨d, by simpa using q4, by simpa using q5⟩
  · have hi : i < (vs.map some ++ List.replicate (n - vs.length) (none : Option V)).length := by rw [i1]; exact (List.getElem?_eq_some_iff.mp e).1
    obtain ⟨a, d', _, _, m⟩ := (i2 i _ _ e (List.getElem?_eq_getElem hi)).2 rfl
    exact ⟨(0 + i, a), m 0, by simp⟩
/-- the contents at the end -/
theorem end_ok {R : List (Nat × Addr)} {H0 G0 : Hp} {σ : L2.St} {δ : DEnv} (k : Ok K cl hx R H0 G0 H G σ δ) : ∀ (vs : List V) (ks : List Bool) (i : Nat) (rs : List D), vs.length = ks.length → (∀ p ∈ refS vs ks i, p ∈ R) → (∀ (j : Nat), ks[j]? = some true → ∃ a, vs[j]? = some (V.ref a)) → endR ks (δ.drop i) = some rs → RefOk K cl H G (refA vs ks) rs
  | [], [], i, rs, _, _, _, e => by cases e; exact .nil
  | [], _ :: _, i, rs, hl, _, _, _ => by cases hl
  | _ :: _, [], i, rs, hl, _, _, _ => by cases hl
  | v :: vs, b :: ks, i, rs, hl, hR, hv, e => by
    have hl' : vs.length = ks.length := by simpa using hl
    have hv' : ∀ (j : Nat), ks[j]? = some true → ∃ a, vs[j]? = some (V.ref a) := fun j hj => by
      obtain ⟨a, ha⟩ := hv (j + 1) (by simpa using hj)
      exact ⟨a, by simpa using ha⟩
    cases q : δ.drop i with
    | nil => rw [q] at e; cases b <;> cases e
    | cons s r =>
      rw [q] at e
      have hs : δ[i]? = some s := by
        have : (δ.drop i)[0]? = some s := by rw [q]; rfl
        rw [List.getElem?_drop] at this
        simpa using this
      have hr : δ.drop (i + 1) = r := by
        have : (δ.drop i).drop 1 = r := by rw [q]; rfl
        rw [List.drop_drop] at this
        exact this
      cases b with
      | false =>
        have e : endR ks r = some rs := e
        have hR' : ∀ p ∈ refS vs ks (i + 1), p ∈ R := fun p hp => hR p (by cases v <;> exact hp)
        have := end_ok k vs ks (i + 1) rs hl' hR' hv' (by rw [hr]; exact e)
        cases v <;> exact this
      | true =>
        obtain ⟨a, ha⟩ := hv 0 rfl
        have ha : v = .ref a := by simpa using ha
        subst ha
        simp only [endR, Option.bind_eq_some_iff, Option.map_eq_some_iff] at e
        obtain ⟨rs', e1, d, e2, rfl⟩ := e
        have hR' : ∀ p ∈ refS vs ks (i + 1), p ∈ R := fun p hp => hR p (List.mem_cons_of_mem _ hp)
        have ih := end_ok k vs ks (i + 1) rs' hl' hR' hv' (by rw [hr]; exact e1)
        have hp : (i, a) ∈ R := hR (i, a) List.mem_cons_self
        obtain ⟨d', q1, q2⟩ := k.refs (i, a) hp
        have q1 : δ[i]? = some (.rf d') := q1
        rw [hs] at q1
        cases q1
        cases e2
        obtain ⟨a', z, ga, w⟩ := k.sl i _ _ hs q2
        cases z
        exact .cons ga w ih
theorem ArgOk.refs {vs : List V} {ks : List Bool} {ds : List D} (h : ArgOk K cl H G vs ks ds) : ∀ (j : Nat), ks[j]? = some true → ∃ a, vs[j]? = some (V.ref a) := by
  induction h with
  | nil => intro j hj; cases hj
  | val _ _ ih =>
    intro j hj
    cases j with
    | zero => cases hj
    | succ j =>
      obtain ⟨a, ha⟩ := ih j (by simpa using hj)
      exact ⟨a, by simpa using ha⟩
  | rf _ _ _ ih =>
    intro j hj
    cases j with
    | zero => exact ⟨_, rfl⟩
    | succ j =>
      obtain ⟨a, ha⟩ := ih j (by simpa using hj)
      exact ⟨a, by simpa using ha⟩
/-- the step that a def was -/
theorem Ok.frm {vs : List V} {ks : List Bool} {H' G' : Hp} {σ : L2.St} {δ : DEnv} (k : Ok K cl hx (refS vs ks 0) H G H' G' σ δ) : Frm (refA vs ks) H G H' G' where
  gk := k.ext
  sub := k.sub
  kept := fun b o e hb => k.kept b o e fun p hp z => hb (by rw [← refS_addr (i := 0), ← z]; exact List.mem_map_of_mem hp)
  new := k.new
end
/-- the reading of a def's body -/
theorem def_read {P : Program} {w : World} {K : PySem.W.Frag} {mg : Str → Option Value} {base : Heap} {cl : Cw} {qual : Str} {st : Stmt} {f : Addr} {N ps : List Str} {k : Nat} {ks : List Bool} {F : DS} (S : FnScope N ps (defScope st)) (hk : ks.length = ps.length)
    (hbody : ∀ (cdv : Value) (A : Around) (outer : List Env) (s : Shared) (H : Hp) (E : XK), Room k (A.deeper (envOfC qual (defScope st) s.heap.objs.size f cdv)) →
      Takes (cxOf (L2.CX P w) P w K mg base N qual (defScope st) f cdv A outer s H E) (fun c d _ H => E c d H) →
      PassesOwn (model P w) (A.deeper (envOfC qual (defScope st) s.heap.objs.size f cdv)) (envOfC qual (defScope st) s.heap.objs.size f cdv) (cxOf (L2.CX P w) P w K mg base N qual (defScope st) f cdv A outer s H E).xe →
      JSs ⟨fun c d _ H => E c d H, cl, (0, none)⟩ (cxOf (L2.CX P w) P w K mg base N qual (defScope st) f cdv A outer s H E) (defBody st) F) :
    ∀ (cdv : Value) (A : Around) (outer : List Env) (s : Shared) (H : Hp) (vs : List V) (Q : VK) (E : XK), Room k (A.deeper (envOfC qual (defScope st) s.heap.objs.size f cdv)) → SpF K cl ks (defF ks N.length F) vs H Q E →
      ∃ t, PSs (cxOf (L2.CX P w) P w K mg base N qual (defScope st) f cdv A outer s H E) (defBody st) t ∧ t { nx := fun _ H' => Q .non H', rt := Q } (start N vs) H := by
  have hpl : ps.length ≤ N.length := by have := congrArg List.length S.pre; rw [List.length_take] at this; omega
  intro cdv A outer s H vs Q E hr h
  · obtain ⟨G, ds, sg, a, nd, h⟩ := h
    refine ⟨_, pssS _ _, ?_⟩
    have e0 : start N vs = vs.map some ++ List.replicate (N.length - vs.length) (none : Option V) := rfl
    have ok0 := entry_ok (hx := (0, none)) sg a nd (n := N.length) (by rw [hk]; exact hpl)
    rw [← e0] at ok0
    refine hbody cdv A outer s H E hr (takes_of rfl rfl rfl rfl) (passes_of rfl) (refS vs ks 0) H G H G _ _ _ ok0 ?_
    have hd : ds.length = ks.length := a.length.2
    unfold defF at h
    rw [if_pos hd] at h
    have fin : ∀ {H' G' : Hp} {σ : L2.St} {δ : DEnv} {rs : List D}, Ok K cl (0, none) (refS vs ks 0) H G H' G' σ δ → endR ks δ = some rs → RefOk K cl H' G' (refA vs ks) rs := fun {H' G' σ δ rs} k' e =>
      end_ok k' vs ks 0 rs a.length.1 (fun p hp => hp) a.refs (by rw [List.drop_zero]; exact e)
    cases q : F (mkEnv ks ds N.length) with
    | nx δ =>
      rw [q] at h
      simp only [toFO] at h
      cases q2 : endR ks δ with
      | none => rw [q2] at h; exact h.elim
      | some rs =>
        rw [q2] at h
        exact fun σ' H' G' s' k' => h .non H' G' k'.frm (fin k' q2) .non
    | rt d δ =>
      rw [q] at h
      simp only [toFO] at h
      cases q2 : endR ks δ with
      | none => rw [q2] at h; exact h.elim
      | some rs =>
        rw [q2] at h
        exact fun v σ' H' G' s' k' r => h v H' G' k'.frm (fin k' q2) r
    | ro d δ =>
      rw [q] at h
      simp only [toFO] at h
      cases q2 : endR ks δ with
      | none => rw [q2] at h; exact h.elim
      | some rs =>
        rw [q2] at h
        exact fun a σ' H' G' s' k' h0 ga ow => h a H' G' k'.frm (fin k' q2) h0 ga ow
    | ex cn ns es δ =>
      rw [q] at h
      simp only [toFO] at h
      cases q2 : endR ks δ with
      | none => rw [q2] at h; exact h.elim
      | some rs =>
        rw [q2] at h
        exact fun cls dd σ' H' G' s' k' xo => h cls dd H' G' k'.frm (fin k' q2) xo
    | bk δ => rw [q] at h; exact h.elim
    | ct δ => rw [q] at h; exact h.elim
    | st => rw [q] at h; exact h.elim
theorem spF_len {K : PySem.W.Frag} {cl : Cw} {ks : List Bool} {fn : List D → FO} {n : Nat} (hk : ks.length = n) : ∀ vs H Q E, SpF K cl ks fn vs H Q E → vs.length = n := fun vs H Q E h => by
  obtain ⟨G, ds, _, a, _⟩ := h
  rw [a.length.1, hk]
end DL

set_option maxRecDepth 100000
set_option maxHeartbeats 4000000
namespace DL
open PySem PySem.Spec PyProof.Rows L2

/-! ### what is walked -/
/-- J goes through ds, wherever G is frozen -/
def WalkOk (K : PySem.W.Frag) (cl : Cw) (G : Hp) (J : It) (ds : List D) : Prop := ∀ (H2 G2 : Hp), Sub G G2 → Sub G2 H2 → ∀ (i : Nat),
  (∀ d, ds[i]? = some d → J.go i H2 ∧ ∀ x H', J.yld i H2 x H' → ∃ G', Grow H2 G2 H' G' ∧ Rep K cl G' x d) ∧ (i = ds.length → J.stop i H2)
theorem WalkOk.mono {K : PySem.W.Frag} {cl : Cw} {G G' : Hp} {J : It} {ds : List D} (w : WalkOk K cl G J ds) (s : Sub G G') : WalkOk K cl G' J ds := fun H2 G2 s2 => w H2 G2 (s.trans s2)
def tI (X : Cx) (tg iter : Expr) : TI := fun σ H R => ∀ pins s, Inv X pins σ H s → wpAny (model X.prog X.w) X.A (eval iter X.env) (fun v s1 => wpAny (model X.prog X.w) X.A (pyIter v) (PIE X pins σ tg R) X.xe s1) X.xe s
theorem piS (X : Cx) (tg iter : Expr) : PI X tg iter (tI X tg iter) := ⟨fun pins s _ _ _ I h => h pins s I⟩
abbrev DI := DEnv → EO (List D)
def JI (c : Cf) (X : Cx) (tg iter : Expr) (F : DI) : Prop := ∀ (R : List (Nat × Addr)) (H0 G0 H G : Hp) (σ : L2.St) (δ : DEnv) (Q : It → Hp → Prop), (c.fx X R H0 G0).Ok H G σ δ → EPost (c.fx X R H0 G0) c.W σ (fun G' J ds => WalkOk X.K c.cl G' J ds) G (F δ) Q → tI X tg iter σ H Q
def rngD (lo hi : Int) : List D := (List.range (hi - lo).toNat).map fun i => D.int (lo + (i : Nat))
def dItems : D → Option (List D)
  | .lst ds => some ds
  | .tup ds => some ds
  | .tpn ds => some ds
  | .scr ns => some (ns.map D.int)
  | .rng i j => if -(2 ^ 62) ≤ i ∧ i < 2 ^ 62 ∧ -(2 ^ 62) ≤ j ∧ j < 2 ^ 62 then some (rngD i j) else none
  | .str x => some (x.cps.toList.map fun c => D.str ⟨#[c]⟩)
  | _ => none
def dIt (fe : DE) : DI := fun δ => (fe δ).bind fun d δ1 => match dItems d with
  | some ds => .ok ds δ1
  | none => .st
section
variable {K : PySem.W.Frag} {cl : Cw} {G : Hp}
theorem walk_lst {a : Addr} {xs : List V} {ds : List D} (h : SqL K G a xs) (r : RepL K cl G xs ds) : WalkOk K cl G (Itl K a) ds := fun H2 G2 s s2 i => by
  have hq : SqL K H2 a xs := (s.trans s2).sqL h
  refine ⟨fun d e => ?_, fun e => ⟨xs, hq, by rw [r.length, e]; exact Nat.le_refl _⟩⟩
  obtain ⟨v, hv, rv⟩ := r.get e
  refine ⟨⟨xs, v, hq, hv⟩, fun x H' y => ?_⟩
  obtain ⟨e1, y⟩ := y
  have z := y xs hq
  rw [hv] at z
  cases z
  rw [e1]
  exact ⟨G2, Grow.refl s2, rv.mono s⟩
theorem walk_tp {a : Addr} {xs : List V} {ds : List D} (h : SqT K G a xs) (r : RepL K cl G xs ds) : WalkOk K cl G (Itt K a) ds := fun H2 G2 s s2 i => by
  have hq : SqT K H2 a xs := (s.trans s2).sqT h
  refine ⟨fun d e => ?_, fun e => ⟨xs, hq, by rw [r.length, e]; exact Nat.le_refl _⟩⟩
  obtain ⟨v, hv, rv⟩ := r.get e
  refine ⟨⟨xs, v, hq, hv⟩, fun x H' y => ?_⟩
  obtain ⟨e1, y⟩ := y
  have z := y xs hq
  rw [hv] at z
  cases z
  rw [e1]
  exact ⟨G2, Grow.refl s2, rv.mono s⟩
theorem walk_st {x : Str} : WalkOk K cl G (Its x) (x.cps.toList.map fun c => D.str ⟨#[c]⟩) := fun H2 G2 s s2 i => by
  refine ⟨fun d e => ?_, fun e => by show x.cps.size ≤ i; rw [e]; simp⟩
  rw [List.getElem?_map, Array.getElem?_toList] at e
  cases q : x.cps[i]? with
  | none => rw [q] at e; cases e
  | some c =>
    rw [q] at e
    cases e
    refine ⟨(Array.getElem?_eq_some_iff.mp q).1, fun y H' hy => ?_⟩
    obtain ⟨e1, c', q', e2⟩ := hy
    rw [q] at q'
    cases q'
    rw [e1, e2]
    exact ⟨G2, Grow.refl s2, .str _⟩
theorem walk_rng {lo : Int} {n : Nat} : WalkOk K cl G (Itr lo n) ((List.range n).map fun i => D.int (lo + (i : Nat))) := fun H2 G2 s s2 i => by
  refine ⟨fun d e => ?_, fun e => by show n ≤ i; rw [e]; simp⟩
  rw [List.getElem?_map] at e
  by_cases hi : i < n
  · rw [List.getElem?_range hi] at e
    cases e
    refine ⟨hi, fun y H' hy => ?_⟩
    obtain ⟨e1, e2⟩ := hy
    rw [e1, e2]
    exact ⟨G2, Grow.refl s2, .int _⟩
  · rw [List.getElem?_eq_none (by simpa using hi)] at e
    cases e
end
/-- a list, a tuple or a text -/
def iSeq (K : PySem.W.Frag) (tl : TE) : TI := fun σ H R => tl σ H fun x H1 => (∃ a, x = .ref a ∧ ((∃ xs, SqL K H1 a xs) ∧ R (Itl K a) H1 ∨ (∃ xs, SqT K H1 a xs) ∧ R (Itt K a) H1)) ∨ (∃ z, x = .str z ∧ R (Its z) H1) ∨ ∃ a i j, x = .ref a ∧ H1 a = some (.rng i j) ∧ (-(2 ^ 62) ≤ i ∧ i < 2 ^ 62 ∧ -(2 ^ 62) ≤ j ∧ j < 2 ^ 62) ∧ R (Itr i (j - i).toNat) H1
section
variable {c : Cf} {X : Cx} {tg e : Expr} {fe : DE} {tl : TE} {pos : Pos}
theorem pi_seq (hl : PE X e tl) : PI X tg e (iSeq X.K tl) := by
  refine ⟨fun pins s σ H R I h => ?_⟩
  refine thn (hl.run pins s σ H _ I h) fun v s1 ⟨x, H1, I1, r1, q1⟩ => ?_
  rcases q1 with ⟨a, rfl, q1⟩ | ⟨z, rfl, q1⟩ | ⟨a, i, j, rfl, hr, ⟨b1, b2, b3, b4⟩, q⟩
  · have r1 : v = Value.ref a := r1
    subst r1
    rcases q1 with ⟨hx, q⟩ | ⟨hx, q⟩
    · obtain ⟨xs, hq⟩ := hx
      obtain ⟨its, rv, p, hz⟩ := I1.list hq
      refine wpAny_pyIter_list p.isList ?_
      refine ⟨s1.heap.objs.size, [s1.heap.objs.size], _, _, H1, rfl, I1.kept (t' := s1.toks) fun b o e => Heap.get?_push_of_some _ e, turn_list a _, ⟨_, Heap.get?_push_size _ rfl, rfl, rfl⟩, fun b hb => ?_, q⟩
      have e : b = s1.heap.objs.size := by simpa using hb
      subst e
      exact I1.fpOk (Nat.le_refl _) (I1.hok.fresh (Nat.le_refl _))
    · obtain ⟨xs, hq⟩ := hx
      obtain ⟨its, rv, p, hz⟩ := I1.tuple hq
      refine wpAny_pyIter_tuple (show s1.heap.IsTuple a its.toArray from p) ?_
      refine ⟨s1.heap.objs.size, [s1.heap.objs.size], _, _, H1, rfl, I1.kept (t' := s1.toks) fun b o e => Heap.get?_push_of_some _ e, turn_tuple a _, ⟨_, Heap.get?_push_size _ rfl, rfl, rfl⟩, fun b hb => ?_, q⟩
      have e : b = s1.heap.objs.size := by simpa using hb
      subst e
      exact I1.fpOk (Nat.le_refl _) (I1.hok.fresh (Nat.le_refl _))
  · obtain ⟨t, rfl⟩ : ∃ t, v = Value.str z t := r1
    cases ha : z.cps.all (· < 128)
    · exact wpAny_pyIter_wide ha (pi_one (tk := s1.toks) I1 _ (turn_str _ z t "str_iterator" (.inr rfl)) ⟨_, Heap.get?_push_size _ rfl, rfl, rfl⟩ q1)
    · exact wpAny_pyIter_ascii ha (pi_one (tk := s1.toks) I1 _ (turn_str _ z t "str_ascii_iterator" (.inl rfl)) ⟨_, Heap.get?_push_size _ rfl, rfl, rfl⟩ q1)
  · have r1 : v = Value.ref a := r1
    subst r1
    obtain ⟨t1, t2, t3, ho⟩ := I1.hok a _ hr
    refine wpAny_pyIter_range (show IsRange s1.heap a i j 1 t1 t2 t3 from ho) (small_one b1 b2 b3 b4) ?_
    refine ⟨s1.heap.objs.size, [s1.heap.objs.size], _, _, H1, rfl, I1.kept (t' := s1.toks) fun b o e => Heap.get?_push_of_some _ e, turn_range _ i (j - i).toNat, ?_, fun b hb => ?_, q⟩
    · have e1 : i + ((0 : Nat) : Int) * 1 = i := by simp
      have e2 : (((j - i).toNat : Nat) : Int) - ((0 : Nat) : Int) = Builtin.Range.rangeSize i j 1 := by rw [rangeSize_one]; split <;> omega
      show IsRangeIter _ _ (i + ((0 : Nat) : Int) * 1) ((((j - i).toNat : Nat) : Int) - ((0 : Nat) : Int)) 1
      rw [e1, e2]
      exact Heap.get?_push_size _ rfl
    · have e : b = s1.heap.objs.size := by simpa using hb
      subst e
      exact I1.fpOk (Nat.le_refl _) (I1.hok.fresh (Nat.le_refl _))
theorem ji_of {t : TI} {F : DI} (p : PI X tg e t) (h : ∀ (R : List (Nat × Addr)) (H0 G0 H G : Hp) (σ : L2.St) (δ : DEnv) (Q : It → Hp → Prop), (c.fx X R H0 G0).Ok H G σ δ → EPost (c.fx X R H0 G0) c.W σ (fun G' J ds => WalkOk X.K c.cl G' J ds) G (F δ) Q → t σ H Q) : JI c X tg e F :=
  fun R H0 G0 H G σ δ Q k h' pins s I => p.run pins s σ H Q I (h R H0 G0 H G σ δ Q k h')
theorem ji_seq (he : JE c X e fe) : JI c X tg e (dIt fe) := by
  refine ji_of (pi_seq (peS X e)) fun R H0 G0 H G σ δ Q k h => ?_
  refine he R H0 G0 H G σ δ _ k (EPost.imp (EPost.bind h) fun x H1 ⟨G1, d, δ1, s1, k1, r1, h1⟩ => ?_)
  cases r1 with
  | @lst a xs ds h2 r =>
    refine .inl ⟨a, rfl, .inl ⟨⟨xs, .inl (.inl (k1.sub _ _ h2))⟩, ?_⟩⟩
    exact h1 _ H1 G1 (.refl G1) k1 (walk_lst (.inl (.inl h2)) r)
  | @tup a xs ds h2 r =>
    refine .inl ⟨a, rfl, .inr ⟨⟨xs, k1.sub.sqT h2⟩, ?_⟩⟩
    exact h1 _ H1 G1 (.refl G1) k1 (walk_tp h2 r)
  | @tpn a ob xs ds h2 hd hc r =>
    have h3 : SqT X.K G1 a xs := .inl (.inr ⟨_, h2⟩)
    refine .inl ⟨a, rfl, .inr ⟨⟨xs, k1.sub.sqT h3⟩, ?_⟩⟩
    exact h1 _ H1 G1 (.refl G1) k1 (walk_tp h3 r)
  | @scr a ns h2 =>
    refine .inl ⟨a, rfl, .inl ⟨⟨_, k1.sub.sqL h2⟩, ?_⟩⟩
    exact h1 _ H1 G1 (.refl G1) k1 (walk_lst h2 (RepL.of_ints ns))
  | str x => exact .inr (.inl ⟨x, rfl, h1 _ H1 G1 (.refl G1) k1 walk_st⟩)
  | @rng a i j h2 =>
    by_cases hb : -(2 ^ 62) ≤ i ∧ i < 2 ^ 62 ∧ -(2 ^ 62) ≤ j ∧ j < 2 ^ 62
    · simp only [dItems, if_pos hb] at h1
      exact .inr (.inr ⟨a, i, j, rfl, k1.sub _ _ h2, hb, h1 _ H1 G1 (.refl G1) k1 walk_rng⟩)
    · simp only [dItems, if_neg hb] at h1; exact h1.elim
  | non => exact h1.elim
  | bl b => exact h1.elim
  | int i => exact h1.elim
  | dct _ _ _ => exact h1.elim
  | ins _ _ _ _ => exact h1.elim
  | set _ _ => exact h1.elim
def dRg1 (fa : DE) : DI := fun δ => (fa δ).bind fun x δ1 => match x with
  | .int j => if -(2 ^ 62) ≤ j ∧ j < 2 ^ 62 then .ok (rngD 0 j) δ1 else .st
  | _ => .st
def dRg2 (fa fb : DE) : DI := fun δ => (fa δ).bind fun x δ1 => (fb δ1).bind fun y δ2 => match x, y with
  | .int i, .int j => if -(2 ^ 62) ≤ i ∧ i < 2 ^ 62 ∧ -(2 ^ 62) ≤ j ∧ j < 2 ^ 62 then .ok (rngD i j) δ2 else .st
  | _, _ => .st
theorem ji_range1 {a : Expr} {p : Pos} {fa : DE} (hg : Gl X "range") (hm : X.mg "range" = none) (ha : JE c X a fa) (hs : starEach [a] X.env = [(false, eval a X.env)] := by rfl) : JI c X tg (.Call (.Name "range" p) [a] [] pos) (dRg1 fa) := by
  refine ji_of (pi_range1 hg hm (pa_cons (peS X a) pa_nil hs) hs) fun R H0 G0 H G σ δ Q k h => ?_
  refine ha R H0 G0 H G σ δ _ k (EPost.imp (EPost.bind h) fun x H1 ⟨G1, d, δ1, s1, k1, r1, h1⟩ => ?_)
  cases r1 with
  | int j =>
    by_cases hj : -(2 ^ 62) ≤ j ∧ j < 2 ^ 62
    · simp only [if_pos hj] at h1
      have w := walk_rng (K := X.K) (cl := c.cl) (G := G1) (lo := 0) (n := j.toNat)
      exact ⟨j, rfl, hj.1, hj.2, h1 (Itr 0 j.toNat) H1 G1 (.refl G1) k1 (by unfold rngD; rw [Int.sub_zero]; exact w)⟩
    · simp only [if_neg hj] at h1; exact h1.elim
  | _ => exact h1.elim
end

/-! ### targets -/
def tG (X : Cx) (tg : Expr) : TG := fun v σ H Q => ∀ pins s u, Inv X pins σ H s → RelV v u → wpAny (model X.prog X.w) X.A (assign tg X.env u) (fun _ s' => ∃ σ' H', Inv X pins σ' H' s' ∧ Q σ' H') X.xe s
theorem pgS (X : Cx) (tg : Expr) : PG X tg (tG X tg) := ⟨fun pins s _ _ _ u _ I r h => h pins s u I r⟩
def JG (c : Cf) (X : Cx) (tg : Expr) (ts : List Nat) (A : D → DEnv → Option DEnv) : Prop := ∀ (R : List (Nat × Addr)) (H0 G0 H G : Hp) (σ : L2.St) (δ δ' : DEnv) (v : V) (d : D) (Q : L2.St → Hp → Prop), (c.fx X R H0 G0).Ok H G σ δ → Rep X.K c.cl G v d → A d δ = some δ' →
  (∀ σ', (c.fx X R H0 G0).Ok H G σ' δ' → (∀ vs, (∀ i ∈ ts, i ∈ vs) → wipe σ' vs = wipe σ vs) → Q σ' H) → tG X tg v σ H Q
section
variable {c : Cf} {X : Cx} {tg e : Expr} {fe : DE} {tl : TE} {pos : Pos}
theorem wipe_set {σ : L2.St} {i : Nat} {x : Option V} : ∀ {vs : List Nat}, i ∈ vs → wipe (σ.set i x) vs = wipe σ vs
  | [], h => by cases h
  | v :: vs, h => by
    show (wipe (σ.set i x) vs).set v none = (wipe σ vs).set v none
    by_cases hi : i ∈ vs
    · rw [wipe_set hi]
    · have e : i = v := by
        rcases List.mem_cons.mp h with e | e
        · exact e
        · exact absurd e hi
      subst e
      have go : ∀ vs : List Nat, i ∉ vs → wipe (σ.set i x) vs = (wipe σ vs).set i x := by
        intro vs
        induction vs with
        | nil => intro _; rfl
        | cons w vs ih =>
          intro h
          have h1 : i ≠ w := fun z => h (z ▸ List.mem_cons_self)
          show (wipe (σ.set i x) vs).set w none = ((wipe σ vs).set w none).set i x
          rw [ih fun z => h (List.mem_cons_of_mem _ z), List.set_comm _ _ h1]
      rw [go vs hi, List.set_set]
theorem jg_name {i : Nat} (p : PG X tg (gName i)) : JG c X tg [i] (setV i) := fun R H0 G0 H G σ δ δ' v d Q k r e h pins s u I ru => p.run pins s σ H v u Q I ru (h _ (k.setV e r) fun vs hv => wipe_set (hv i List.mem_cons_self))
/-- names one after another -/
def setVs : List Nat → List D → DEnv → Option DEnv
  | [], [], δ => some δ
  | i :: is, d :: ds, δ => (setV i d δ).bind (setVs is ds)
  | _, _, _ => none
def gNames : List Nat → TGs
  | [] => gNil
  | i :: is => gCons (gName i) (gNames is)
theorem names_ok {R : List (Nat × Addr)} {H0 G0 H G : Hp} {Q : L2.St → Hp → Prop} : ∀ {is : List Nat} {vs : List V} {ds : List D} {σ : L2.St} {δ δ' : DEnv}, (c.fx X R H0 G0).Ok H G σ δ → RepL X.K c.cl G vs ds → setVs is ds δ = some δ' → (∀ σ', (c.fx X R H0 G0).Ok H G σ' δ' → (∀ vs, (∀ i ∈ is, i ∈ vs) → wipe σ' vs = wipe σ vs) → Q σ' H) → gNames is vs σ H Q
  | [], _, [], _, _, _, k, r, e, h => by cases r; cases e; exact ⟨rfl, h _ k fun _ _ => rfl⟩
  | [], _, _ :: _, _, _, _, k, r, e, h => by cases e
  | _ :: _, _, [], _, _, _, k, r, e, h => by cases e
  | i :: is, _, d :: ds, σ, δ, δ', k, r, e, h => by
    cases r with
    | @cons v vs _ _ r1 r2 =>
      simp only [setVs, Option.bind_eq_some_iff] at e
      obtain ⟨δ1, e1, e2⟩ := e
      exact ⟨v, vs, rfl, names_ok (k.setV e1 r1) r2 e2 fun σ' k' hw => h σ' k' fun ws hi => (hw ws fun j hj => hi j (List.mem_cons_of_mem _ hj)).trans (wipe_set (hi i List.mem_cons_self))⟩
def dUnp (is : List Nat) : D → DEnv → Option DEnv
  | .tup ds, δ => setVs is ds δ
  | .lst ds, δ => setVs is ds δ
  | _, _ => none
theorem setVs_len : ∀ {is : List Nat} {ds : List D} {δ δ' : DEnv}, setVs is ds δ = some δ' → ds.length = is.length
  | [], [], _, _, _ => rfl
  | [], _ :: _, _, _, e => by cases e
  | _ :: _, [], _, _, e => by cases e
  | i :: is, d :: ds, δ, δ', e => by
    simp only [setVs, Option.bind_eq_some_iff] at e
    obtain ⟨δ1, e1, e2⟩ := e
    exact congrArg (· + 1) (setVs_len e2)
theorem jg_names {is : List Nat} (p1 : PG X tg (gTup X.K is.length (gNames is))) (p2 : PG X tg (gLst X.K is.length (gNames is))) : JG c X tg is (dUnp is) := fun R H0 G0 H G σ δ δ' v d Q k r e h pins s u I ru => by
  cases r with
  | @tup a xs ds h1 h2 => exact p1.run pins s σ H _ u Q I ru ⟨a, xs, rfl, k.sub.sqT h1, by rw [h2.length]; exact setVs_len e, names_ok k h2 e h⟩
  | @lst a xs ds h1 h2 => exact p2.run pins s σ H _ u Q I ru ⟨a, xs, rfl, .inl (.inl (k.sub _ _ h1)), by rw [h2.length]; exact setVs_len e, names_ok k h2 e h⟩
  | _ => cases e

/-! ### for -/
def forL (A : D → DEnv → Option DEnv) (f : DS) : List D → DEnv → SO
  | [], δ => .nx δ
  | d :: ds, δ => match A d δ with
    | none => .st
    | some δ1 => match f δ1 with
      | .nx δ2 => forL A f ds δ2
      | .ct δ2 => forL A f ds δ2
      | .bk δ2 => .nx δ2
      | .rt x δ2 => .rt x δ2
      | .ro x δ2 => .ro x δ2
      | .ex c ns es δ2 => .ex c ns es δ2
      | .st => .st
def sFor (it : DI) (A : D → DEnv → Option DEnv) (f : DS) : DS := fun δ => (it δ).to fun ds δ1 => forL A f ds δ1
theorem js_for {ts : List Nat} {iter : Expr} {body : List Stmt} {it : DI} {A : D → DEnv → Option DEnv} {f : DS} (hp : PassesOwn (model X.prog X.w) X.A X.env X.xe) (hc : X.calm = true) (hi : JI c X tg iter it) (hg : JG c X tg ts A) (hb : JSs c X body f)
    (hs : ∀ x, foldedSetIterable iter X.env x = pure x := by intro _; rfl) : JS c X (.For tg iter body [] pos) (sFor it A f) := by
  refine js_of (ps_for hp hc (piS X tg iter) (pgS X tg) (pssS X body) hs) fun R H0 G0 H G σ δ D' k h => ?_
  refine hi R H0 G0 H G σ δ _ k (EPost.imp (SPost.ofE h) fun J H1 ⟨G1, ds, δ1, s1, k1, w, h1⟩ => ?_)
  refine ⟨fun i m σ' H' => m = ds.length - i ∧ i ≤ ds.length ∧ ∃ G' δ', Sub G1 G' ∧ (c.fx X R H0 G0).Ok H' G' σ' δ' ∧ SPost (c.fx X R H0 G0) c.W G' (forL A f (ds.drop i) δ') D', ⟨ds.length, by simp, Nat.zero_le _, G1, δ1, .refl G1, k1, by rw [List.drop_zero]; exact h1⟩, ?_⟩
  rintro i m σ2 H2 ⟨rfl, hi2, G2, δ2, s2, k2, h2⟩
  obtain ⟨w1, w2⟩ := w H2 G2 s2 k2.sub i
  by_cases hlt : i < ds.length
  · refine .inr ⟨(w1 ds[i] (List.getElem?_eq_getElem hlt)).1, fun σ' H' => i + 1 ≤ ds.length ∧ ∃ G' δ', Sub G1 G' ∧ (c.fx X R H0 G0).Ok H' G' σ' δ' ∧ SPost (c.fx X R H0 G0) c.W G' (forL A f (ds.drop (i + 1)) δ') D', fun σ' H' hN => ⟨ds.length - (i + 1), by omega, rfl, hN.1, hN.2⟩, fun x H3 y => ?_⟩
    obtain ⟨G3, gr, rx⟩ := (w1 ds[i] (List.getElem?_eq_getElem hlt)).2 x H3 y
    have k3 := k2.grow gr
    rw [List.drop_eq_getElem_cons hlt] at h2
    unfold forL at h2
    cases q : A ds[i] δ2 with
    | none => rw [q] at h2; exact h2.elim
    | some δ3 =>
      rw [q] at h2
      refine hg R H0 G0 H3 G3 σ2 δ2 δ3 x ds[i] _ k3 rx q fun σ3 k4 _ => ?_
      refine hb R H0 G0 H3 G3 σ3 δ3 _ k4 ?_
      have s3 := s2.trans gr.gk
      cases q2 : f δ3 with
      | nx δ4 => simp only [q2] at h2; exact fun σ' H' G' s' k' => ⟨hlt, G', δ4, s3.trans s', k', SPost.weak (gr.gk.trans s') h2⟩
      | ct δ4 => simp only [q2] at h2; exact fun σ' H' G' s' k' => ⟨hlt, G', δ4, s3.trans s', k', SPost.weak (gr.gk.trans s') h2⟩
      | bk δ4 => simp only [q2] at h2; exact fun σ' H' G' s' k' => h2 σ' H' G' (gr.gk.trans s') k'
      | rt x' δ4 => simp only [q2] at h2; exact fun v σ' H' G' s' k' r => h2 v σ' H' G' (gr.gk.trans s') k' r
      | ro x' δ4 => simp only [q2] at h2; exact fun v σ' H' G' s' k' r => h2 v σ' H' G' (gr.gk.trans s') k' r
      | ex cn ns es δ4 => simp only [q2] at h2; exact fun cls dd σ' H' G' s' k' xo => h2 cls dd σ' H' G' (gr.gk.trans s') k' xo
      | st => simp only [q2] at h2; exact h2.elim
  · have e : i = ds.length := by omega
    rw [e, List.drop_eq_nil_of_le (Nat.le_refl _)] at h2
    exact .inl ⟨w2 e, h2 σ2 H2 G2 (.refl G2) k2⟩

/-! ### while -/
end
end DL

set_option maxRecDepth 100000
set_option maxHeartbeats 4000000
namespace DL
open PySem PySem.Spec PyProof.Rows L2

/-! ### an owned variable is frozen ahead -/
section
variable {c : Cf} {X : Cx} {tg e : Expr} {fe : DE} {pos : Pos}
theorem FPost.weak {f : Fx} {W : WX} {σ : L2.St} {G G' : Hp} {o : EO D} {Q : VK} (s : Sub G G') (h : FPost f W σ G o Q) : FPost f W σ G' o Q := by
  cases o with
  | ok d δ => exact fun a H' G'' s' => h a H' G'' (s.trans s')
  | ex c ns ds δ => exact fun cls dd H' G'' s' => h cls dd H' G'' (s.trans s')
  | st => exact h
end

/-! ### the block of a comprehension -/
/-- the slots within: its own names unset, owned ones by reference -/
def blkEnv (vs : List Nat) (δ : DEnv) : DEnv := (List.range δ.length).map fun i => if i ∈ vs then .un else match δ[i]? with
  | some (.own d) => .rf d
  | some s => s
  | none => .un
/-- back: the contents of owned slots -/
def backEnv (δ δ' : DEnv) : DEnv := (List.range δ.length).map fun i => match δ[i]? with
  | some s => if isO s then (match δ'[i]? with | some t => (match t.cont with | some d => s.put d | none => s) | none => s) else s
  | none => .un
/-- none of the block's own names is owned outside -/
def vsFree (vs : List Nat) (δ : DEnv) : Bool := vs.all fun i => match δ[i]? with
  | some s => !isO s
  | none => true
def refsOf (σ : L2.St) (δ : DEnv) : List (Nat × Addr) := (List.range δ.length).filterMap fun i => match δ[i]?, σ[i]? with
  | some s, some (some (V.ref a)) => if isO s then some (i, a) else none
  | _, _ => none
section
variable {K : PySem.W.Frag} {cl : Cw} {hx : Addr × Option Addr} {R : List (Nat × Addr)} {H0 G0 H G H' G' : Hp} {σ : L2.St} {δ : DEnv} {vs : List Nat}
theorem blkEnv_at {i : Nat} (hi : i < δ.length) : (blkEnv vs δ)[i]? = some (if i ∈ vs then .un else match δ[i] with | .own d => .rf d | s => s) := by
  unfold blkEnv
  rw [List.getElem?_map, List.getElem?_range hi]
  show some (if i ∈ vs then Sl.un else match δ[i]? with | some (.own d) => .rf d | some s => s | none => .un) = _
  rw [List.getElem?_eq_getElem hi]
  congr 1
  split
  · rfl
  · cases δ[i] <;> rfl
theorem backEnv_at {δ' : DEnv} {i : Nat} (hi : i < δ.length) : (backEnv δ δ')[i]? = some (if isO δ[i] then (match δ'[i]? with | some t => (match t.cont with | some d => δ[i].put d | none => δ[i]) | none => δ[i]) else δ[i]) := by
  unfold backEnv
  rw [List.getElem?_map, List.getElem?_range hi]
  show some (match δ[i]? with | some s => if isO s then (match δ'[i]? with | some t => (match t.cont with | some d => s.put d | none => s) | none => s) else s | none => .un) = _
  rw [List.getElem?_eq_getElem hi]
theorem mem_refsOf {p : Nat × Addr} : p ∈ refsOf σ δ ↔ ∃ s, δ[p.1]? = some s ∧ isO s = true ∧ σ[p.1]? = some (some (.ref p.2)) := by
  unfold refsOf
  rw [List.mem_filterMap]
  constructor
  · rintro ⟨i, hi, e⟩
    split at e
    · rename_i s a e1 e2
      split at e
      · rename_i ho
        cases e
        exact ⟨s, e1, ho, e2⟩
      · cases e
    · cases e
  · rintro ⟨s, e1, e2, e3⟩
    refine ⟨p.1, List.mem_range.mpr (List.getElem?_eq_some_iff.mp e1).1, ?_⟩
    rw [e1, e3]
    show (if isO s = true then some (p.1, p.2) else none) = some p
    rw [if_pos e2]
theorem wipe_in {σ : L2.St} {i : Nat} : ∀ {vs : List Nat}, i ∈ vs → i < σ.length → (wipe σ vs)[i]? = some none
  | [], h, _ => by cases h
  | v :: vs, h, hl => by
    show ((wipe σ vs).set v none)[i]? = some none
    by_cases e : v = i
    · subst e
      rw [List.getElem?_set_self (by rw [wipe_length]; exact hl)]
    · rw [List.getElem?_set_ne e]
      rcases List.mem_cons.mp h with z | z
      · exact absurd z.symm e
      · exact wipe_in z hl
theorem wipe_out {σ : L2.St} {i : Nat} : ∀ {vs : List Nat}, i ∉ vs → (wipe σ vs)[i]? = σ[i]?
  | [], _ => rfl
  | v :: vs, h => by
    show ((wipe σ vs).set v none)[i]? = σ[i]?
    rw [List.getElem?_set_ne (show v ≠ i from fun z => h (by rw [z]; exact List.mem_cons_self))]
    exact wipe_out fun z => h (List.mem_cons_of_mem _ z)
/-- the block begins -/
theorem Ok.block (k : Ok K cl hx R H0 G0 H G σ δ) (hv : vsFree vs δ = true) : Ok K cl hx (refsOf σ δ) H G H G (wipe σ vs) (blkEnv vs δ) := by
  have lb : (blkEnv vs δ).length = δ.length := by simp [blkEnv]
  have nv : ∀ {i : Nat} {s : Sl}, δ[i]? = some s → isO s = true → i ∉ vs := fun {i s} e o hi => by
    have := List.all_eq_true.mp hv i hi
    rw [e] at this
    simp [o] at this
  have at_ : ∀ {i : Nat} {s : Sl}, (blkEnv vs δ)[i]? = some s → ∃ s0, δ[i]? = some s0 ∧ ((i ∈ vs ∧ s = .un) ∨ (i ∉ vs ∧ s = (match s0 with | .own d => .rf d | s => s))) := fun {i s} e => by
    have hi : i < δ.length := by rw [← lb]; exact (List.getElem?_eq_some_iff.mp e).1
    rw [blkEnv_at hi] at e
    refine ⟨δ[i], List.getElem?_eq_getElem hi, ?_⟩
    by_cases h : i ∈ vs
    · rw [if_pos h] at e; cases e; exact .inl ⟨h, rfl⟩
    · rw [if_neg h] at e; cases e; exact .inr ⟨h, rfl⟩
  have oO : ∀ {i : Nat} {s : Sl}, (blkEnv vs δ)[i]? = some s → isO s = true → ∃ s0, δ[i]? = some s0 ∧ isO s0 = true ∧ i ∉ vs := fun {i s} e o => by
    obtain ⟨s0, e0, h | ⟨h, z⟩⟩ := at_ e
    · rw [h.2] at o; cases o
    · refine ⟨s0, e0, ?_, h⟩
      cases s0 with
      | own d => rfl
      | rf d => rfl
      | un => rw [z] at o; cases o
      | val d => rw [z] at o; cases o
      | exc c ns ds => rw [z] at o; cases o
  refine ⟨by rw [wipe_length, lb]; exact k.len, k.sub, .refl G, fun b o e => .inl e, fun b o e _ => e, fun p hp => ?_, fun i s x e1 e2 => ?_, fun i j s t a e1 e2 o1 o2 s1 s2 => ?_, fun p hp => ?_, fun i d e => ?_⟩
  · obtain ⟨s, e1, o, e2⟩ := mem_refsOf.mp hp
    obtain ⟨a, d, q1, q2, q3, _⟩ := (k.sl _ s _ e1 e2).ex o
    cases q1
    obtain ⟨u, hu⟩ := q3.ex
    exact ⟨by rw [hu]; simp, q2⟩
  · obtain ⟨s0, e0, h | ⟨h, z⟩⟩ := at_ e1
    · rw [h.2]; trivial
    · rw [wipe_out h] at e2
      have q := k.sl i s0 x e0 e2
      rw [z]
      cases s0 with
      | un => trivial
      | val d => exact q
      | own d => obtain ⟨a, q1, q2, _, q4⟩ := q; exact ⟨a, q1, q2, q4⟩
      | rf d => exact q
      | exc c ns ds => exact q
  · obtain ⟨s0, e3, o3, n3⟩ := oO e1 o1
    obtain ⟨t0, e4, o4, n4⟩ := oO e2 o2
    rw [wipe_out n3] at s1
    rw [wipe_out n4] at s2
    exact k.sep i j s0 t0 a e3 e4 o3 o4 s1 s2
  · obtain ⟨s, e1, o, e2⟩ := mem_refsOf.mp hp
    have hi : p.1 < δ.length := (List.getElem?_eq_some_iff.mp e1).1
    have n := nv e1 o
    rw [blkEnv_at hi, if_neg n, wipe_out n]
    have e0 : δ[p.1] = s := by rw [List.getElem?_eq_getElem hi] at e1; exact Option.some.inj e1
    rw [e0]
    cases s with
    | own d => exact ⟨d, rfl, e2⟩
    | rf d => exact ⟨d, rfl, e2⟩
    | un => cases o
    | val d => cases o
    | exc c ns ds => cases o
  · obtain ⟨s0, e0, o0, n0⟩ := oO e rfl
    obtain ⟨x, ex, q⟩ := k.at e0
    obtain ⟨a, d', q1, _⟩ := q.ex o0
    exact ⟨(i, a), mem_refsOf.mpr ⟨s0, e0, o0, by rw [ex, q1]⟩, rfl⟩
/-- the block's turn ends -/
theorem Ok.unblock (k : Ok K cl hx R H0 G0 H G σ δ) (hv : vsFree vs δ = true) {σ2 : L2.St} {δ2 : DEnv} (hσ : wipe σ2 vs = wipe σ vs) (k2 : Ok K cl hx (refsOf σ δ) H G H' G' σ2 δ2) :
    Frm ((refsOf σ δ).map (·.2)) H G H' G' ∧ Ok K cl hx R H0 G0 H' G' σ (backEnv δ δ2) := by
  have fr : Frm ((refsOf σ δ).map (·.2)) H G H' G' := ⟨k2.ext, k2.sub, fun b o e hb => k2.kept b o e fun p hp z => hb (List.mem_map.mpr ⟨p, hp, z⟩), k2.new⟩
  refine ⟨fr, k.frame fr (by simp [backEnv]) (fun i s e o => ?_) (fun i s a e o es => ?_) fun a ha => ?_⟩
  · have hi : i < δ.length := (List.getElem?_eq_some_iff.mp e).1
    have e0 : δ[i] = s := by rw [List.getElem?_eq_getElem hi] at e; exact Option.some.inj e
    rw [backEnv_at hi, e0, o]
    rfl
  · have hi : i < δ.length := (List.getElem?_eq_some_iff.mp e).1
    have e0 : δ[i] = s := by rw [List.getElem?_eq_getElem hi] at e; exact Option.some.inj e
    have hp : (i, a) ∈ refsOf σ δ := mem_refsOf.mpr ⟨s, e, o, es⟩
    obtain ⟨d, q1, q2⟩ := k2.refs (i, a) hp
    have q1 : δ2[i]? = some (.rf d) := q1
    obtain ⟨a', z, ga, w⟩ := k2.sl i _ _ q1 q2
    cases z
    refine ⟨d, ?_, ga, w⟩
    rw [backEnv_at hi, e0, o, q1]
    rfl
  · obtain ⟨p, hp, rfl⟩ := List.mem_map.mp ha
    obtain ⟨s, e1, o, e2⟩ := mem_refsOf.mp hp
    exact ⟨p.1, s, e1, o, e2⟩
/-- an object that no slot holds is written -/
theorem Ok.updNew (k : Ok K cl hx R H0 G0 H G σ δ) {p : Addr} {o u : HO} (hp : H p = some u) (gp : G p = none) (h0 : H0 p = none) (hs : ∀ (j : Nat) (t : Sl), δ[j]? = some t → isO t = true → σ[j]? ≠ some (some (.ref p))) : Ok K cl hx R H0 G0 (upd H p o) G σ δ := by
  refine ⟨k.len, fun b v e => by rw [upd_ne (ne_of_none e gp)]; exact k.sub b v e, k.ext, k.new, fun b v e hR => by rw [upd_ne (ne_of_none e h0)]; exact k.kept b v e hR, k.rfree, fun i s x e1 e2 => ?_, k.sep, k.refs, k.rfs⟩
  have q := k.sl i s x e1 e2
  have ne : ∀ b, x = some (.ref b) → isO s = true → b ≠ p := fun b hb hO z => by
    subst z; subst hb
    exact hs i s e1 hO e2
  cases s with
  | un => trivial
  | val d => exact q
  | own d => obtain ⟨b, q1, q2, q3, q4⟩ := q; exact ⟨b, q1, q2, q3, q4.mono (.refl G) fun o z => by rw [upd_ne (ne b q1 rfl)]; exact z⟩
  | rf d => obtain ⟨b, q1, q2, q4⟩ := q; exact ⟨b, q1, q2, q4.mono (.refl G) fun o z => by rw [upd_ne (ne b q1 rfl)]; exact z⟩
  | exc c ns ds => exact q
end

/-! ### [elt for target in iter if ..] -/
def compL (A : D → DEnv → Option DEnv) (t : DT) (el : DE) (vs : List Nat) : List D → DEnv → List D → EO D
  | [], δ, acc => .ok (.lst acc) δ
  | d :: ds, δ, acc => if vsFree vs δ = true then match A d (blkEnv vs δ) with
      | none => .st
      | some δ1 => match t δ1 with
        | .ok false δ2 => compL A t el vs ds (backEnv δ δ2) acc
        | .ok true δ2 => (match el δ2 with
          | .ok x δ3 => if acc.length < sizeLine then compL A t el vs ds (backEnv δ δ3) (acc ++ [x]) else .st
          | _ => .st)
        | _ => .st
    else .st
def dComp (it : DI) (A : D → DEnv → Option DEnv) (t : DT) (el : DE) (vs : List Nat) : DE := fun δ => (it δ).bind fun ds δ1 => compL A t el vs ds δ1 []
def Cf.nox (c : Cf) : Cf := { c with W := fun _ _ _ _ => False }
def tTs (X : Cx) (ifs : List Expr) : TT := fun σ H Q => ∀ pins s, Inv X pins σ H s →
    wpAny (model X.prog X.w) X.A (forIn ifs true fun c r => if r = true then do let ok ← isTrue c X.env (eval c X.env); pure (ForInStep.yield ok) else pure (ForInStep.yield r)) (TP X pins σ Q) X.xe s
def JTs (c : Cf) (X : Cx) (ifs : List Expr) (F : DT) : Prop := ∀ (R : List (Nat × Addr)) (H0 G0 H G : Hp) (σ : L2.St) (δ : DEnv) (Q : Bool → Hp → Prop), (c.fx X R H0 G0).Ok H G σ δ → EPost (c.fx X R H0 G0) c.W σ relB G (F δ) Q → tTs X ifs σ H Q
def bG (X : Cx) (scope : Scope) (tg : Expr) : TG := fun v σ H Q => ∀ (s : Shared) (H1 : Hp) (C : Addr) (cl : List (Str × Addr)) (fp : List Addr), tG (X.blk s H1 scope (compEnvC scope cl C X.env) fp) tg v σ H Q
def bT (X : Cx) (scope : Scope) (ifs : List Expr) : TT := fun σ H Q => ∀ (s : Shared) (H1 : Hp) (C : Addr) (cl : List (Str × Addr)) (fp : List Addr), tTs (X.blk s H1 scope (compEnvC scope cl C X.env) fp) ifs σ H Q
def bE (X : Cx) (scope : Scope) (elt : Expr) : TE := fun σ H Q => ∀ (s : Shared) (H1 : Hp) (C : Addr) (cl : List (Str × Addr)) (fp : List Addr), tE (X.blk s H1 scope (compEnvC scope cl C X.env) fp) elt σ H Q
theorem pgB (X : Cx) (scope : Scope) (tg : Expr) : ∀ (s : Shared) (H : Hp) (C : Addr) (cl : List (Str × Addr)) (fp : List Addr), PG (X.blk s H scope (compEnvC scope cl C X.env) fp) tg (bG X scope tg) :=
  fun s' H' C cl fp => ⟨fun pins s _ _ _ u _ I r h => h s' H' C cl fp pins s u I r⟩
theorem ptB (X : Cx) (scope : Scope) (ifs : List Expr) : ∀ (s : Shared) (H : Hp) (C : Addr) (cl : List (Str × Addr)) (fp : List Addr), PTs (X.blk s H scope (compEnvC scope cl C X.env) fp) ifs (bT X scope ifs) :=
  fun s' H' C cl fp => ⟨fun pins s _ _ _ I h => h s' H' C cl fp pins s I⟩
theorem peB (X : Cx) (scope : Scope) (elt : Expr) : ∀ (s : Shared) (H : Hp) (C : Addr) (cl : List (Str × Addr)) (fp : List Addr), PE (X.blk s H scope (compEnvC scope cl C X.env) fp) elt (bE X scope elt) :=
  fun s' H' C cl fp => ⟨fun pins s _ _ _ I h => h s' H' C cl fp pins s I⟩
def dYes : DT := fun δ => .ok true δ
section
variable {c : Cf} {X : Cx} {tg e : Expr} {pos : Pos}
theorem jts_nil : JTs c X [] dYes := fun R H0 G0 H G σ δ Q k h pins s I => pts_nil.run pins s σ H Q I (h true H G (.refl G) k rfl)
theorem jts_one {t : DT} (ht : JT c X e t) : JTs c X [e] t := fun R H0 G0 H G σ δ Q k h pins s I => (pts_one (ptS X e)).run pins s σ H Q I (ht R H0 G0 H G σ δ Q k h)
theorem lc_ok {elt iter : Expr} {ifs : List Expr} {scope : Scope} {vs ts : List Nat} {it : DI} {A : D → DEnv → Option DEnv} {t : DT} {el : DE} (hi : JI c X tg iter it) (hts : ∀ i ∈ ts, i ∈ vs)
    (hg : ∀ (s : Shared) (H : Hp) (C : Addr) (cl : List (Str × Addr)) (fp : List Addr), JG c.nox (X.blk s H scope (compEnvC scope cl C X.env) fp) tg ts A)
    (ht : ∀ (s : Shared) (H : Hp) (C : Addr) (cl : List (Str × Addr)) (fp : List Addr), JTs c.nox (X.blk s H scope (compEnvC scope cl C X.env) fp) ifs t)
    (he : ∀ (s : Shared) (H : Hp) (C : Addr) (cl : List (Str × Addr)) (fp : List Addr), JE c.nox (X.blk s H scope (compEnvC scope cl C X.env) fp) elt el)
    {R : List (Nat × Addr)} {H0 G0 H G : Hp} {σ : L2.St} {δ : DEnv} {Q : VK} (k : (c.fx X R H0 G0).Ok H G σ δ) (h : FPost (c.fx X R H0 G0) c.W σ G (dComp it A t el vs δ) Q) :
    tLc (tI X tg iter) (bG X scope tg) (bT X scope ifs) (bE X scope elt) vs σ H Q := by
  refine hi R H0 G0 H G σ δ _ k (EPost.imp (FPost.bind (rel := fun _ _ _ => True) h) fun J H1 ⟨G1, ds, δ1, s1, k1, w, h1⟩ => ?_)
  intro Dn nD
  refine ⟨fun i m H' => m = ds.length - i ∧ i ≤ ds.length ∧ ∃ G' δ' accV acc, Sub G1 G' ∧ (c.fx X R H0 G0).Ok H' G' σ δ' ∧ H' Dn = some (.lst accV) ∧ RepL X.K c.cl G' accV acc ∧ G' Dn = none ∧ H0 Dn = none ∧
    (∀ (j : Nat) (t : Sl), δ'[j]? = some t → isO t = true → σ[j]? ≠ some (some (.ref Dn))) ∧ FPost (c.fx X R H0 G0) c.W σ G' (compL A t el vs (ds.drop i) δ' acc) Q, ⟨ds.length, by simp, Nat.zero_le _, G1, δ1, [], [], .refl G1, ?_, upd_same, .nil, k1.freshG nD, k1.freshH0 nD, fun j t e o => k1.freshSl nD e o, by rw [List.drop_zero]; exact h1⟩, ?_⟩
  · exact k1.grow (Grow.fresh k1.sub nD (.lst []))
  rintro i m H2 ⟨rfl, hi2, G2, δ2, accV, acc, s2, k2, hD, racc, gD, h0D, hsD, h2⟩
  obtain ⟨w1, w2⟩ := w H2 G2 s2 k2.sub i
  by_cases hlt : i < ds.length
  · refine .inr ⟨(w1 ds[i] (List.getElem?_eq_getElem hlt)).1, fun H' => i + 1 ≤ ds.length ∧ ∃ G' δ' accV acc, Sub G1 G' ∧ (c.fx X R H0 G0).Ok H' G' σ δ' ∧ H' Dn = some (.lst accV) ∧ RepL X.K c.cl G' accV acc ∧ G' Dn = none ∧ H0 Dn = none ∧
      (∀ (j : Nat) (t : Sl), δ'[j]? = some t → isO t = true → σ[j]? ≠ some (some (.ref Dn))) ∧ FPost (c.fx X R H0 G0) c.W σ G' (compL A t el vs (ds.drop (i + 1)) δ' acc) Q, fun H' hN => ⟨ds.length - (i + 1), by omega, rfl, hN.1, hN.2⟩, fun x H3 y => ?_⟩
    obtain ⟨G3, gr, rx⟩ := (w1 ds[i] (List.getElem?_eq_getElem hlt)).2 x H3 y
    have k3 := k2.grow gr
    have hD3 : H3 Dn = some (.lst accV) := gr.hk _ _ hD
    have gD3 : G3 Dn = none := by
      cases e : G3 Dn with
      | none => rfl
      | some u =>
        rcases gr.gn Dn u e with z | z
        · rw [gD] at z; cases z
        · rw [hD] at z; cases z
    rw [List.drop_eq_getElem_cons hlt] at h2
    unfold compL at h2
    cases hv : vsFree vs δ2 with
    | false => rw [hv] at h2; exact h2.elim
    | true =>
      rw [hv] at h2
      simp only [if_true] at h2
      cases q : A ds[i] (blkEnv vs δ2) with
      | none => simp only [q] at h2; exact h2.elim
      | some δ3 =>
        simp only [q] at h2
        have kb := k3.block hv
        intro ss HH CC cc ff
        refine hg ss HH CC cc ff (refsOf σ δ2) H3 G3 H3 G3 (wipe σ vs) (blkEnv vs δ2) δ3 x ds[i] _ kb rx q fun σ4 k4 hw => ?_
        have hw' : wipe σ4 vs = wipe σ vs := by
          rw [hw vs hts]
          have go : ∀ (l : List Nat), (∀ j ∈ l, j ∈ vs) → wipe (wipe σ vs) l = wipe σ vs := by
            intro l
            induction l with
            | nil => intro _; rfl
            | cons j l ih =>
              intro hl
              show (wipe (wipe σ vs) l).set j none = wipe σ vs
              rw [ih fun z hz => hl z (List.mem_cons_of_mem _ hz)]
              refine List.ext_getElem? fun n => ?_
              by_cases hn : j = n
              · subst hn
                by_cases hj : j < (wipe σ vs).length
                · rw [List.getElem?_set_self hj, wipe_in (hl j List.mem_cons_self) (by rw [wipe_length] at hj; exact hj)]
                · rw [List.getElem?_eq_none (by simpa using hj), List.getElem?_eq_none (by simpa using hj)]
              · rw [List.getElem?_set_ne hn]
          exact go vs fun _ z => z
        -- the turn's end
        have fin : ∀ {H5 G5 : Hp} {δ5 : DEnv}, Sub G3 G5 → DL.Ok X.K c.cl c.hx (refsOf σ δ2) H3 G3 H5 G5 σ4 δ5 → (c.fx X R H0 G0).Ok H5 G5 σ (backEnv δ2 δ5) ∧ H5 Dn = some (.lst accV) ∧ G5 Dn = none ∧ (∀ (j : Nat) (t : Sl), (backEnv δ2 δ5)[j]? = some t → isO t = true → σ[j]? ≠ some (some (.ref Dn))) := fun {H5 G5 δ5} s5 k5 => by
          obtain ⟨fr, k6⟩ := k3.unblock hv hw' k5
          refine ⟨k6, fr.kept _ _ hD3 fun hm => ?_, ?_, fun j u e o => ?_⟩
          · obtain ⟨p, hp, e⟩ := List.mem_map.mp hm
            obtain ⟨s, e1, o, e2⟩ := mem_refsOf.mp hp
            rw [e] at e2
            exact hsD p.1 s e1 o e2
          · cases e : G5 Dn with
            | none => rfl
            | some u =>
              rcases fr.new Dn u e with z | z
              · rw [gD3] at z; cases z
              · rw [hD3] at z; cases z
          · have hj : j < δ2.length := by
              have := (List.getElem?_eq_some_iff.mp e).1
              simpa [backEnv] using this
            have e0 := backEnv_at (δ' := δ5) hj
            rw [e] at e0
            have e0 := Option.some.inj e0
            refine hsD j δ2[j] (List.getElem?_eq_getElem hj) ?_
            cases ho : isO δ2[j] with
            | true => rfl
            | false => rw [ho] at e0; simp only [Bool.false_eq_true, if_false] at e0; rw [e0, ho] at o; cases o
        refine ⟨hw', ?_⟩
        intro ss2 HH2 CC2 cc2 ff2
        refine ht ss2 HH2 CC2 cc2 ff2 (refsOf σ δ2) H3 G3 H3 G3 σ4 δ3 _ k4 ?_
        cases q2 : t δ3 with
        | ok b δ4 =>
          intro b' H5 G5 s5 k5 rb
          have rb : b' = b := rb
          subst rb
          cases b' with
          | false =>
            simp only [q2] at h2
            simp only [Bool.false_eq_true, if_false]
            obtain ⟨k6, d6, g6, n6⟩ := fin s5 k5
            exact ⟨hlt, G5, _, accV, acc, (s2.trans gr.gk).trans s5, k6, d6, racc.mono (gr.gk.trans s5), g6, h0D, n6, FPost.weak (gr.gk.trans s5) h2⟩
          | true =>
            simp only [q2] at h2
            simp only [if_true]
            intro ss3 HH3 CC3 cc3 ff3
            refine he ss3 HH3 CC3 cc3 ff3 (refsOf σ δ2) H3 G3 H5 G5 σ4 δ4 _ k5 ?_
            cases q3 : el δ4 with
            | ok z δ5 =>
              simp only [q3] at h2
              intro y' H6 G6 s6 k6 ry
              by_cases hz : acc.length < sizeLine
              · rw [if_pos hz] at h2
                obtain ⟨k7, d7, g7, n7⟩ := fin (s5.trans s6) k6
                have sg := (gr.gk.trans s5).trans s6
                refine ⟨accV, d7, by rw [racc.length]; exact hz, hlt, G6, _, accV ++ [y'], acc ++ [z], (s2.trans sg), k7.updNew d7 g7 h0D n7, upd_same, (racc.mono sg).append (.cons ry .nil), g7, h0D, n7, FPost.weak sg h2⟩
              · rw [if_neg hz] at h2; exact h2.elim
            | ex cn ns es δ5 => simp only [q3] at h2; exact h2.elim
            | st => simp only [q3] at h2; exact h2.elim
        | ex cn ns es δ4 => simp only [q2] at h2; exact h2.elim
        | st => simp only [q2] at h2; exact h2.elim
  · have e : i = ds.length := by omega
    rw [e, List.drop_eq_nil_of_le (Nat.le_refl _)] at h2
    exact .inl ⟨w2 e, h2 Dn H2 G2 (.refl G2) k2 gD h0D ⟨accV, hD, racc⟩ hsD⟩
theorem jf_comp {elt iter : Expr} {ifs : List Expr} {scope : Scope} {own : List (Str × Nat)} {ts : List Nat} {it : DI} {A : D → DEnv → Option DEnv} {t : DT} {el : DE} (hc : X.calm = true) (hN : X.N.Nodup) (hi : JI c X tg iter it) (ok : BlkOk X.N X.env.scope scope own)
    (hts : ∀ i ∈ ts, i ∈ own.map (·.2))
    (hg : ∀ (s : Shared) (H : Hp) (C : Addr) (cl : List (Str × Addr)) (fp : List Addr), JG c.nox (X.blk s H scope (compEnvC scope cl C X.env) fp) tg ts A)
    (ht : ∀ (s : Shared) (H : Hp) (C : Addr) (cl : List (Str × Addr)) (fp : List Addr), JTs c.nox (X.blk s H scope (compEnvC scope cl C X.env) fp) ifs t)
    (he : ∀ (s : Shared) (H : Hp) (C : Addr) (cl : List (Str × Addr)) (fp : List Addr), JE c.nox (X.blk s H scope (compEnvC scope cl C X.env) fp) elt el) (hs : ∀ x, foldedSetIterable iter X.env x = pure x := by intro _; rfl) :
    JF c X (.ListComp elt [⟨tg, iter, ifs, 0⟩] scope pos) (dComp it A t el (own.map (·.2))) := fun R H0 G0 H G σ δ Q k h pins s I => by
  refine (pe_lc hc hN (piS X tg iter) ok (pgB X scope tg) (ptB X scope ifs) (peB X scope elt) hs).run pins s σ H Q I ?_
  exact lc_ok hi hts hg ht he k h
end
end DL

set_option maxRecDepth 100000
set_option maxHeartbeats 4000000
namespace DL
open PySem PySem.Spec PyProof.Rows L2

/-! ### operators by data -/
section
variable {K : PySem.W.Frag} {cl : Cw}
def gI (C : Int → Int → Bool) (f : Int → Int → Int) : D → D → Option D
  | .int i, .int j => if C i j = true then some (.int (f i j)) else none
  | _, _ => none
def gB (f : Int → Int → Bool) : D → D → Option D
  | .int i, .int j => some (.bl (f i j))
  | _, _ => none
theorem bin_int {C : Int → Int → Bool} {C' : Int → Int → Prop} {f : Int → Int → Int} (h : ∀ i j, C i j = true → C' i j) : BinOk K cl (rI C' fun i j => .int (f i j)) (gI C f) := fun H G x y d e z Q s r1 r2 g q => by
  cases r1 with
  | int i =>
    cases r2 with
    | int j =>
      simp only [gI] at g
      by_cases hc : C i j = true
      · rw [if_pos hc] at g; cases g
        exact ⟨i, j, rfl, rfl, h i j hc, q _ H G (.refl s) (.int _)⟩
      · rw [if_neg hc] at g; cases g
    | _ => cases g
  | _ => cases g
theorem bin_int0 {f : Int → Int → Int} : BinOk K cl (rI0 fun i j => .int (f i j)) (gI (fun _ _ => true) f) := fun H G x y d e z Q s r1 r2 g q => by
  cases r1 with
  | int i =>
    cases r2 with
    | int j => cases g; exact ⟨i, j, rfl, rfl, q _ H G (.refl s) (.int _)⟩
    | _ => cases g
  | _ => cases g
theorem bin_bool {f : Int → Int → Bool} : BinOk K cl (rI0 fun i j => .bl (f i j)) (gB f) := fun H G x y d e z Q s r1 r2 g q => by
  cases r1 with
  | int i =>
    cases r2 with
    | int j => cases g; exact ⟨i, j, rfl, rfl, q _ H G (.refl s) (.bl _)⟩
    | _ => cases g
  | _ => cases g
/-- + -/
def gAdd : D → D → Option D
  | .int i, .int j => some (.int (i + j))
  | .str x, .str y => if x.length + y.length ≤ sizeLine then some (.str (x ++ y)) else none
  | .tup xs, .tup ys => if xs.length + ys.length ≤ sizeLine then some (.tup (xs ++ ys)) else none
  | .lst xs, .lst ys => if xs.length + ys.length ≤ sizeLine then some (.lst (xs ++ ys)) else none
  | .tpn xs, .tup ys => if xs.length + ys.length ≤ sizeLine then some (.tup (xs ++ ys)) else none
  | _, _ => none
def rStrAdd : R2 := fun x y H Q => ∃ i j, x = .str i ∧ y = .str j ∧ i.length + j.length ≤ sizeLine ∧ Q (.str (i ++ j)) H
def rAddA (K : PySem.W.Frag) : R2 := fun x y H Q => rI0 (fun i j => .int (i + j)) x y H Q ∨ (rStrAdd x y H Q ∨ (rCatA K x y H Q ∨ rCat x y H Q))
theorem op_addA {X : Cx} : OpR X (binaryOp .Add) (rAddA X.K) := op_add.or (op_add_str.or (op_catA.or op_cat))
theorem bin_add : BinOk K cl (rAddA K) gAdd := fun H G x y d e z Q s r1 r2 g q => by
  cases r1 with
  | int i =>
    cases r2 with
    | int j => cases g; exact .inl ⟨i, j, rfl, rfl, q _ H G (.refl s) (.int _)⟩
    | _ => cases g
  | str a =>
    cases r2 with
    | str b =>
      simp only [gAdd] at g
      by_cases hl : a.length + b.length ≤ sizeLine
      · rw [if_pos hl] at g; cases g
        exact .inr (.inl ⟨a, b, rfl, rfl, hl, q _ H G (.refl s) (.str _)⟩)
      · rw [if_neg hl] at g; cases g
    | _ => cases g
  | @tup a xs ds h1 h2 =>
    cases r2 with
    | @tup b ys es h3 h4 =>
      simp only [gAdd] at g
      by_cases hl : ds.length + es.length ≤ sizeLine
      · rw [if_pos hl] at g; cases g
        refine .inr (.inr (.inl ⟨a, b, xs, ys, rfl, rfl, s.sqT h1, s.sqT h3, by rw [h2.length, h4.length]; exact hl, fun e => ?_, fun ne e => ?_, fun _ _ p np => ?_⟩))
        · subst e
          cases h2
          exact q _ H G (.refl s) (.tup h3 h4)
        · subst e
          cases h4
          exact q _ H G (.refl s) (.tup h1 (by rw [List.append_nil]; exact h2))
        · have gr := Grow.froze s np (.tup (xs ++ ys))
          exact q _ _ _ gr (.tup (.inl (.inl upd_same)) ((h2.append h4).mono gr.gk))
      · rw [if_neg hl] at g; cases g
    | _ => cases g
  | @lst a xs ds h1 h2 =>
    cases r2 with
    | @lst b ys es h3 h4 =>
      simp only [gAdd] at g
      by_cases hl : ds.length + es.length ≤ sizeLine
      · rw [if_pos hl] at g; cases g
        refine .inr (.inr (.inr ⟨a, b, xs, ys, rfl, rfl, s _ _ h1, s _ _ h3, by rw [h2.length, h4.length]; exact hl, fun p np => ?_⟩))
        have gr := Grow.froze s np (.lst (xs ++ ys))
        exact q _ _ _ gr (.lst upd_same ((h2.append h4).mono gr.gk))
      · rw [if_neg hl] at g; cases g
    | _ => cases g
  | @tpn a ob xs ds h0 _ _ h2 =>
    cases r2 with
    | @tup b ys es h3 h4 =>
      have h1 : SqT K G a xs := .inl (.inr ⟨ob, h0⟩)
      simp only [gAdd] at g
      by_cases hl : ds.length + es.length ≤ sizeLine
      · rw [if_pos hl] at g; cases g
        refine .inr (.inr (.inl ⟨a, b, xs, ys, rfl, rfl, s.sqT h1, s.sqT h3, by rw [h2.length, h4.length]; exact hl, fun e => ?_, fun ne e => ?_, fun _ _ p np => ?_⟩))
        · subst e
          cases h2
          exact q _ H G (.refl s) (.tup h3 h4)
        · subst e
          cases h4
          exact q _ H G (.refl s) (.tup h1 (by rw [List.append_nil]; exact h2))
        · have gr := Grow.froze s np (.tup (xs ++ ys))
          exact q _ _ _ gr (.tup (.inl (.inl upd_same)) ((h2.append h4).mono gr.gk))
      · rw [if_neg hl] at g; cases g
    | _ => cases g
  | _ => cases g
/-! ### == -/
mutual
def toPy : D → Option PyData
  | .non => some .none
  | .bl b => some (.bool b)
  | .int i => some (.int i)
  | .str x => some (.str x)
  | .lst ds => (toPyL ds).map .list
  | .tup ds => (toPyL ds).map .tuple
  | .tpn ds => (toPyL ds).map .tuple
  | .dct _ _ => none
  | .ins _ _ _ => none
  | .scr _ => none
  | .rng _ _ => none
  | .set _ => none
def toPyL : List D → Option (List PyData)
  | [] => some []
  | d :: ds => (toPy d).bind fun p => (toPyL ds).map fun ps => p :: ps
end
mutual
theorem Rep.dp {H G : Hp} (s : Sub G H) : ∀ {d : D} {v : V} {p : PyData}, Rep K cl G v d → toPy d = some p → Dp K H v p
  | .non, _, _, h, e => by cases h; cases e; exact .non
  | .bl b, _, _, h, e => by cases h; cases e; exact .bl b
  | .int i, _, _, h, e => by cases h; cases e; exact .int i
  | .str x, _, _, h, e => by cases h; cases e; exact .str x
  | .lst ds, _, _, h, e => by
    cases h with
    | lst h1 h2 =>
      simp only [toPy, Option.map_eq_some_iff] at e
      obtain ⟨ps, e1, rfl⟩ := e
      exact .lst (.inl (.inl (s _ _ h1))) (RepL.dp s h2 e1)
  | .tup ds, _, _, h, e => by
    cases h with
    | tup h1 h2 =>
      simp only [toPy, Option.map_eq_some_iff] at e
      obtain ⟨ps, e1, rfl⟩ := e
      exact .tup (s.sqT h1) (RepL.dp s h2 e1)
  | .tpn ds, _, _, h, e => by
    cases h with
    | tpn h1 hd hc h2 =>
      simp only [toPy, Option.map_eq_some_iff] at e
      obtain ⟨ps, e1, rfl⟩ := e
      exact .tup (.inl (.inr ⟨_, s _ _ h1⟩)) (RepL.dp s h2 e1)
  | .dct _ _, _, _, h, e => by simp [toPy] at e
  | .ins _ _ _, _, _, h, e => by simp [toPy] at e
  | .scr _, _, _, h, e => by simp [toPy] at e
  | .rng _ _, _, _, h, e => by simp [toPy] at e
  | .set _, _, _, h, e => by simp [toPy] at e
theorem RepL.dp {H G : Hp} (s : Sub G H) : ∀ {ds : List D} {vs : List V} {ps : List PyData}, RepL K cl G vs ds → toPyL ds = some ps → DpAll K H vs ps
  | [], _, _, h, e => by cases h; simp only [toPyL] at e; cases e; exact .nil
  | d :: ds, _, _, h, e => by
    cases h with
    | cons h1 h2 =>
      simp only [toPyL, Option.bind_eq_some_iff, Option.map_eq_some_iff] at e
      obtain ⟨p, e1, ps, e2, rfl⟩ := e
      exact .cons (Rep.dp s h1 e1) (RepL.dp s h2 e2)
end
def gEq (neg : Bool) (d e : D) : Option D := match toPy d, toPy e with
  | some p, some q => if SeqAt.shaped p = true ∧ SeqAt.shaped q = true then some (.bl (if neg then !PyData.eqv p q else PyData.eqv p q)) else none
  | _, _ => none
theorem bin_eq : BinOk K cl (rEqD K) (gEq false) := fun H G x y d e z Q s r1 r2 g q => by
  unfold gEq at g
  cases h1 : toPy d with
  | none => rw [h1] at g; cases g
  | some p =>
    cases h2 : toPy e with
    | none => rw [h1, h2] at g; cases g
    | some p2 =>
      rw [h1, h2] at g
      dsimp only at g
      by_cases hs : SeqAt.shaped p = true ∧ SeqAt.shaped p2 = true
      · rw [if_pos hs] at g; cases g
        exact ⟨p, p2, r1.dp s h1, r2.dp s h2, hs.1, hs.2, q _ H G (.refl s) (.bl _)⟩
      · rw [if_neg hs] at g; cases g
theorem bin_ne : BinOk K cl (rNeD K) (gEq true) := fun H G x y d e z Q s r1 r2 g q => by
  unfold gEq at g
  cases h1 : toPy d with
  | none => rw [h1] at g; cases g
  | some p =>
    cases h2 : toPy e with
    | none => rw [h1, h2] at g; cases g
    | some p2 =>
      rw [h1, h2] at g
      dsimp only at g
      by_cases hs : SeqAt.shaped p = true ∧ SeqAt.shaped p2 = true
      · rw [if_pos hs] at g; cases g
        exact ⟨p, p2, r1.dp s h1, r2.dp s h2, hs.1, hs.2, q _ H G (.refl s) (.bl _)⟩
      · rw [if_neg hs] at g; cases g
/-! ### is -/
def gIs (neg : Bool) : D → D → Option D
  | .bl a, .bl b => some (.bl (if neg then !decide (a = b) else decide (a = b)))
  | .non, .non => some (.bl (!neg))
  | _, .non => some (.bl neg)
  | _, _ => none
def rIsA : R2 := fun x y H Q => (y = .non ∧ Q (.bl (decide (x = .non))) H) ∨ rIsB x y H Q
theorem op_isA {X : Cx} : OpR X (compareOp .Is) rIsA := op_isN.or op_isBl
theorem bin_is : BinOk K cl rIsA (gIs false) := fun H G x y d e z Q s r1 r2 g q => by
  cases r2 with
  | non =>
    refine .inl ⟨rfl, ?_⟩
    cases r1 <;> (cases g; exact q _ H G (.refl s) (.bl _))
  | bl b =>
    cases r1 with
    | bl a => cases g; exact .inr ⟨a, b, rfl, rfl, q _ H G (.refl s) (.bl _)⟩
    | _ => cases g
  | _ => cases r1 <;> cases g
end
section
variable {c : Cf} {X : Cx} {a b : Expr} {fa fb : DE} {pos : Pos}
/-! ### the operators' rules -/
theorem je_add (ha : JE c X a fa) (hb : JE c X b fb) : JE c X (.BinOp a .Add b pos) (dBin gAdd fa fb) := je_op op_addA bin_add ha hb
theorem je_sub (ha : JE c X a fa) (hb : JE c X b fb) : JE c X (.BinOp a .Sub b pos) (dBin (gI (fun _ _ => true) fun i j => i - j) fa fb) := je_op op_sub bin_int0 ha hb
def cMul (i j : Int) : Bool := decide (i.natAbs.log2 + j.natAbs.log2 < 1000000)
theorem je_mul (ha : JE c X a fa) (hb : JE c X b fb) : JE c X (.BinOp a .Mult b pos) (dBin (gI cMul fun i j => i * j) fa fb) := je_op op_mulW (bin_int fun i j h => of_decide_eq_true (p := i.natAbs.log2 + j.natAbs.log2 < 1000000) h) ha hb
def cDiv (_ j : Int) : Bool := decide (0 < j ∧ j.natAbs.log2 < 9000)
theorem je_div (ha : JE c X a fa) (hb : JE c X b fb) : JE c X (.BinOp a .FloorDiv b pos) (dBin (gI cDiv fun i j => i / j) fa fb) := je_op op_fdivW (bin_int fun i j h => of_decide_eq_true (p := 0 < j ∧ j.natAbs.log2 < 9000) h) ha hb
def cPos (_ j : Int) : Bool := decide (0 < j)
theorem je_mod (ha : JE c X a fa) (hb : JE c X b fb) : JE c X (.BinOp a .Mod b pos) (dBin (gI cPos fun i j => i % j) fa fb) := je_op op_mod (bin_int fun i j h => of_decide_eq_true h) ha hb
def cPow (i j : Int) : Bool := decide (0 ≤ j ∧ j ≤ 1000000 ∧ i.natAbs < 2 ^ 64)
theorem je_pow (ha : JE c X a fa) (hb : JE c X b fb) : JE c X (.BinOp a .Pow b pos) (dBin (gI cPow fun i j => i ^ j.toNat) fa fb) := je_op op_pow (bin_int fun i j h => of_decide_eq_true (p := 0 ≤ j ∧ j ≤ 1000000 ∧ i.natAbs < 2 ^ 64) h) ha hb
/-- what an operator of comparison is by data -/
structure CmpR (c : Cf) (X : Cx) (op : CmpOp) (r : R2) (g : D → D → Option D) : Prop where
  op : OpR X (compareOp op) r
  ok : BinOk X.K c.cl r g
theorem cr_lt : CmpR c X .Lt (rI0 fun i j => .bl (decide (i < j))) (gB fun i j => decide (i < j)) := ⟨op_lt, bin_bool⟩
theorem cr_gt : CmpR c X .Gt (rI0 fun i j => .bl (decide (j < i))) (gB fun i j => decide (j < i)) := ⟨op_gt, bin_bool⟩
theorem cr_eq (hu : X.A.units + 64 < cLine) : CmpR c X .Eq (rEqD X.K) (gEq false) := ⟨op_eqD hu, bin_eq⟩
theorem cr_ne (hu : X.A.units + 64 < cLine) : CmpR c X .NotEq (rNeD X.K) (gEq true) := ⟨op_neD hu, bin_ne⟩
theorem cr_is : CmpR c X .Is rIsA (gIs false) := ⟨op_isA, bin_is⟩
theorem je_cm {op : CmpOp} {r : R2} {g : D → D → Option D} (h : CmpR c X op r g) (ha : JE c X a fa) (hb : JE c X b fb) (hm : behindInMarks op b = false := by first | exact nomark _ | with_unfolding_all rfl) : JE c X (.Compare a [op] [b] pos) (dBin g fa fb) := je_cmp h.op h.ok ha hb hm
theorem jt_cm {op : CmpOp} {r : R2} {g : D → D → Option D} (h : CmpR c X op r g) (ha : JE c X a fa) (hb : JE c X b fb) (hm : behindInMarks op b = false := by first | exact nomark _ | with_unfolding_all rfl) : JT c X (.Compare a [op] [b] pos) (dTest (dBin g fa fb)) := jt_cmp h.op h.ok ha hb hm
/-- unary -/
def dUn (g : D → Option D) (fa : DE) : DE := fun δ => (fa δ).bind fun x δ1 => match g x with
  | some z => .ok z δ1
  | none => .st
def gU (f : Int → Int) : D → Option D
  | .int i => some (.int (f i))
  | _ => none
theorem je_un {op : UnaryOp} {f : Int → Int} (ho : UnR X (unaryOp op) (rU fun i => .int (f i))) (ha : JE c X a fa) : JE c X (.UnaryOp op a pos) (dUn (gU f) fa) := by
  refine je_of (pe_un ho (peS X a)) fun R H0 G0 H G σ δ Q k h => ?_
  refine ha R H0 G0 H G σ δ _ k (EPost.imp (EPost.bind h) fun x H1 ⟨G1, d, δ1, s1, k1, r1, h1⟩ => ?_)
  cases r1 with
  | int i => exact ⟨i, rfl, h1 _ H1 G1 (.refl G1) k1 (.int _)⟩
  | _ => exact h1.elim
theorem je_neg (ha : JE c X a fa) : JE c X (.UnaryOp .USub a pos) (dUn (gU fun i => -i) fa) := je_un un_neg ha
def dNot (fa : DE) : DE := fun δ => (fa δ).bind fun x δ1 => match dTruth x with
  | some b => .ok (.bl (!b)) δ1
  | none => .st
theorem je_not (ha : JE c X a fa) : JE c X (.UnaryOp .Not a pos) (dNot fa) := by
  refine je_of (pe_notT (peS X a)) fun R H0 G0 H G σ δ Q k h => ?_
  refine ha R H0 G0 H G σ δ _ k (EPost.imp (EPost.bind h) fun x H1 ⟨G1, d, δ1, s1, k1, r1, h1⟩ => ?_)
  cases q : dTruth d with
  | none => rw [q] at h1; exact h1.elim
  | some b => rw [q] at h1; exact ⟨b, truth_ok k1.sub r1 q, h1 _ H1 G1 (.refl G1) k1 (.bl _)⟩
/-- and, or of values -/
def dAnd (fa fb : DE) : DE := fun δ => (fa δ).bind fun x δ1 => match dTruth x with
  | some true => fb δ1
  | some false => .ok x δ1
  | none => .st
def dOr (fa fb : DE) : DE := fun δ => (fa δ).bind fun x δ1 => match dTruth x with
  | some true => .ok x δ1
  | some false => fb δ1
  | none => .st
theorem je_one {op : BoolOp} (ha : JE c X a fa) : JE c X (.BoolOp op [a] pos) fa := je_of (pe_one (peS X a)) fun R H0 G0 H G σ δ Q k h => ha R H0 G0 H G σ δ Q k h
theorem je_and {rest : List Expr} (ha : JE c X a fa) (hb : JE c X (.BoolOp .And (b :: rest) pos) fb) : JE c X (.BoolOp .And (a :: b :: rest) pos) (dAnd fa fb) := by
  refine je_of (pe_andT (peS X a) (peS X _)) fun R H0 G0 H G σ δ Q k h => ?_
  refine ha R H0 G0 H G σ δ _ k (EPost.imp (EPost.bind h) fun x H1 ⟨G1, d, δ1, s1, k1, r1, h1⟩ => ?_)
  cases q : dTruth d with
  | none => rw [q] at h1; exact h1.elim
  | some t =>
    rw [q] at h1
    refine ⟨t, truth_ok k1.sub r1 q, ?_⟩
    cases t with
    | true => exact hb R H0 G0 H1 G1 σ δ1 Q k1 h1
    | false => exact h1 _ H1 G1 (.refl G1) k1 r1
/-- as tests -/
def tAndD (ta tb : DT) : DT := fun δ => (ta δ).bind fun x δ1 => if x = true then tb δ1 else .ok false δ1
def tOrD (ta tb : DT) : DT := fun δ => (ta δ).bind fun x δ1 => if x = true then .ok true δ1 else tb δ1
def tNotD (ta : DT) : DT := fun δ => (ta δ).bind fun x δ1 => .ok (!x) δ1
variable {ft gt : DT} {rest : List Expr}
theorem JW.jt (h : JW c X a ft) : JT c X a ft := fun R H0 G0 H G σ δ Q k h' pins s I => h R H0 G0 H G σ δ Q k h' _ pins s I
theorem jw_and1 (ha : JT c X a ft) : JW c X (.BoolOp .And [a] pos) ft := jw_of (pw_and1 (ptS X a)) fun R H0 G0 H G σ δ Q k h => ha R H0 G0 H G σ δ Q k h
theorem jw_or1 (ha : JT c X a ft) : JW c X (.BoolOp .Or [a] pos) ft := jw_of (pw_or1 (ptS X a)) fun R H0 G0 H G σ δ Q k h => ha R H0 G0 H G σ δ Q k h
theorem jw_and (ha : JT c X a ft) (hb : JW c X (.BoolOp .And (b :: rest) pos) gt) : JW c X (.BoolOp .And (a :: b :: rest) pos) (tAndD ft gt) := by
  refine jw_of (pw_and (ptS X a) (pwS X _)) fun R H0 G0 H G σ δ Q k h => ?_
  refine ha R H0 G0 H G σ δ _ k (EPost.imp (EPost.bind (rel := relB) h) fun x H1 ⟨G1, d, δ1, s1, k1, r1, h1⟩ => ?_)
  have r1 : x = d := r1
  subst r1
  cases x with
  | true => exact hb R H0 G0 H1 G1 σ δ1 Q k1 h1
  | false => exact h1 _ H1 G1 (.refl G1) k1 rfl
theorem jw_or (ha : JT c X a ft) (hb : JW c X (.BoolOp .Or (b :: rest) pos) gt) : JW c X (.BoolOp .Or (a :: b :: rest) pos) (tOrD ft gt) := by
  refine jw_of (pw_or (ptS X a) (pwS X _)) fun R H0 G0 H G σ δ Q k h => ?_
  refine ha R H0 G0 H G σ δ _ k (EPost.imp (EPost.bind (rel := relB) h) fun x H1 ⟨G1, d, δ1, s1, k1, r1, h1⟩ => ?_)
  have r1 : x = d := r1
  subst r1
  cases x with
  | true => exact h1 _ H1 G1 (.refl G1) k1 rfl
  | false => exact hb R H0 G0 H1 G1 σ δ1 Q k1 h1
theorem jt_not (ha : JT c X a ft) : JT c X (.UnaryOp .Not a pos) (tNotD ft) := by
  refine jt_of (pt_not (ptS X a)) fun R H0 G0 H G σ δ Q k h => ?_
  refine ha R H0 G0 H G σ δ _ k (EPost.imp (EPost.bind (rel := relB) h) fun x H1 ⟨G1, d, δ1, s1, k1, r1, h1⟩ => ?_)
  have r1 : x = d := r1
  subst r1
  exact h1 _ H1 G1 (.refl G1) k1 rfl
/-- a if t else b -/
def dIf (t : DT) (fa fb : DE) : DE := fun δ => (t δ).bind fun x δ1 => if x = true then fa δ1 else fb δ1
theorem je_if {t : Expr} (ht : JT c X t ft) (ha : JE c X a fa) (hb : JE c X b fb) : JE c X (.IfExp t a b pos) (dIf ft fa fb) := by
  refine je_of (pe_ifExp (ptS X t) (peS X a) (peS X b)) fun R H0 G0 H G σ δ Q k h => ?_
  refine ht R H0 G0 H G σ δ _ k (EPost.imp (EPost.bind (rel := relB) h) fun x H1 ⟨G1, d, δ1, s1, k1, r1, h1⟩ => ?_)
  have r1 : x = d := r1
  subst r1
  cases x with
  | true => exact ha R H0 G0 H1 G1 σ δ1 Q k1 h1
  | false => exact hb R H0 G0 H1 G1 σ δ1 Q k1 h1
/-- a op b op' e -/
def dChain (g g' : D → D → Option D) (fa fb fe : DE) : DE := fun δ => (fa δ).bind fun x δ1 => (fb δ1).bind fun y δ2 => match g x y with
  | some (.bl true) => (fe δ2).bind fun z δ3 => (match g' y z with
    | some w => .ok w δ3
    | none => .st)
  | some (.bl false) => .ok (.bl false) δ2
  | _ => .st
end
end DL

set_option maxRecDepth 100000
set_option maxHeartbeats 4000000
namespace DL
open PySem PySem.Spec PyProof.Rows L2

/-! ### calls of built-ins -/
def dCallB (g : List D → Option D) (fs : DA) : DE := dVals fs fun ds δ => match g ds with
  | some z => .ok z δ
  | none => .st
def CallOk (K : PySem.W.Frag) (cl : Cw) (r : List V → Hp → VK → Prop) (g : List D → Option D) : Prop :=
  ∀ (H G : Hp) (xs : List V) (ds : List D) (z : D) (Q : VK), Sub G H → RepL K cl G xs ds → g ds = some z → (∀ v H' G', Grow H G H' G' → Rep K cl G' v z → Q v H') → r xs H Q
/-- the same where the answer is a new object that is nobody's -/
def CallNew (K : PySem.W.Frag) (cl : Cw) (r : List V → Hp → VK → Prop) (g : List D → Option D) : Prop :=
  ∀ (H G : Hp) (xs : List V) (ds : List D) (z : D) (Q : VK), Sub G H → RepL K cl G xs ds → g ds = some z → (∀ (p : Addr) (o : HO), H p = none → Own K cl (upd H p o) G p z → Q (.ref p) (upd H p o)) → r xs H Q
section
variable {c : Cf} {X : Cx} {e : Expr} {es : List Expr} {fs : DA} {r : List V → Hp → VK → Prop} {g : List D → Option D} {pos : Pos}
theorem je_cb (p : PE X e (tCB r (tA X es))) (h : CallOk X.K c.cl r g) (ha : JA c X es fs) : JE c X e (dCallB g fs) := by
  refine je_of p fun R H0 G0 H G σ δ Q k hp => ?_
  refine ha R H0 G0 H G σ δ _ k (EPost.imp (EPost.bind hp) fun xs H1 ⟨G1, as, δ1, s1, k1, r1, h1⟩ => ?_)
  cases q : avs as with
  | none => rw [q] at h1; exact h1.elim
  | some ds =>
    rw [q] at h1
    cases q2 : g ds with
    | none => simp only [q2] at h1; exact h1.elim
    | some z =>
      simp only [q2] at h1
      exact h H1 G1 xs ds z Q k1.sub (r1.vals q) q2 fun v H' G' gr rv => h1 v H' G' gr.gk (k1.grow gr) rv
theorem jf_cb (p : PE X e (tCB r (tA X es))) (h : CallNew X.K c.cl r g) (ha : JA c X es fs) : JF c X e (dCallB g fs) := fun R H0 G0 H G σ δ Q k hp pins s I => by
  refine p.run pins s σ H Q I ?_
  refine ha R H0 G0 H G σ δ _ k (EPost.imp (FPost.bind (rel := fun _ _ _ => True) hp) fun xs H1 ⟨G1, as, δ1, s1, k1, r1, h1⟩ => ?_)
  cases q : avs as with
  | none => rw [q] at h1; exact h1.elim
  | some ds =>
    rw [q] at h1
    cases q2 : g ds with
    | none => simp only [q2] at h1; exact h1.elim
    | some z =>
      simp only [q2] at h1
      refine h H1 G1 xs ds z Q k1.sub (r1.vals q) q2 fun p o np w => ?_
      have gr := Grow.fresh k1.sub np o
      exact h1 p _ _ gr.gk (k1.grow gr) (k1.freshG np) (k1.freshH0 np) w fun j t e o' => k1.freshSl np e o'
end
section
variable {K : PySem.W.Frag} {cl : Cw} {H G : Hp}
theorem RepL.one' {vs : List V} {d : D} (r : RepL K cl G vs [d]) : ∃ v, vs = [v] ∧ Rep K cl G v d := by
  cases r with
  | cons h t => cases t; exact ⟨_, rfl, h⟩
theorem RepL.two' {vs : List V} {d e : D} (r : RepL K cl G vs [d, e]) : ∃ v u, vs = [v, u] ∧ Rep K cl G v d ∧ Rep K cl G u e := by
  cases r with
  | cons h t => obtain ⟨u, z, q⟩ := t.one'; exact ⟨_, u, by rw [z], h, q⟩
/-- len -/
def lenD : D → Option Nat
  | .str y => if y.length ≤ sizeLine then some y.length else none
  | .lst ds => some ds.length
  | .tup ds => some ds.length
  | .tpn ds => some ds.length
  | .scr ns => some ns.length
  | _ => none
def gLen : List D → Option D
  | [d] => (lenD d).map fun n => .int (n : Nat)
  | _ => none
def rLenA (K : PySem.W.Frag) : List V → Hp → VK → Prop := fun xs H Q => ∃ x n, xs = [x] ∧ LenV K x H n ∧ Q (.int n) H
theorem lenV_ok (s : Sub G H) {v : V} {d : D} {n : Nat} (r : Rep K cl G v d) (e : lenD d = some n) : LenV K v H n := by
  cases r with
  | str y =>
    simp only [lenD] at e
    by_cases hl : y.length ≤ sizeLine
    · rw [if_pos hl] at e; cases e; exact ⟨hl, rfl⟩
    · rw [if_neg hl] at e; cases e
  | @lst a xs ds h1 h2 => cases e; exact .inl ⟨xs, .inl (.inl (s _ _ h1)), h2.length.symm⟩
  | @tup a xs ds h1 h2 => cases e; exact .inr ⟨xs, s.sqT h1, h2.length.symm⟩
  | @tpn a ob xs ds h1 hd hc h2 => cases e; exact .inr ⟨xs, .inl (.inr ⟨_, s _ _ h1⟩), h2.length.symm⟩
  | @scr a ns h1 => cases e; exact .inl ⟨_, s.sqL h1, by simp⟩
  | _ => cases e
theorem co_len : CallOk K cl (rLenA K) gLen := fun H G xs ds z Q s r e q => by
  match ds, r, e with
  | [d], r, e =>
    obtain ⟨v, rfl, rv⟩ := r.one'
    simp only [gLen, Option.map_eq_some_iff] at e
    obtain ⟨n, e1, rfl⟩ := e
    exact ⟨v, n, rfl, lenV_ok s rv e1, q _ H G (.refl s) (.int _)⟩
  | [], r, e => cases e
  | _ :: _ :: _, r, e => cases e
/-- int(x) of an int, a bool -/
def gInt1 : List D → Option D
  | [.int i] => some (.int i)
  | [.bl b] => some (.int (if b then 1 else 0))
  | _ => none
theorem co_int : CallOk K cl (fun xs H Q => (∃ i, xs = [.int i] ∧ Q (.int i) H) ∨ ∃ k, xs = [.bl k] ∧ Q (.int (if k then 1 else 0)) H) gInt1 := fun H G xs ds z Q s r e q => by
  match ds, r, e with
  | [d], r, e =>
    obtain ⟨v, rfl, rv⟩ := r.one'
    cases rv with
    | int i => cases e; exact .inl ⟨i, rfl, q _ H G (.refl s) (.int _)⟩
    | bl b => cases e; exact .inr ⟨b, rfl, q _ H G (.refl s) (.int _)⟩
    | _ => cases e
  | [], r, e => cases e
  | _ :: _ :: _, r, e => simp [gInt1] at e
def gAbs : List D → Option D
  | [.int i] => some (.int (if i < 0 then -i else i))
  | _ => none
theorem co_abs : CallOk K cl (fun xs H Q => ∃ i, xs = [.int i] ∧ Q (.int (if i < 0 then -i else i)) H) gAbs := fun H G xs ds z Q s r e q => by
  match ds, r, e with
  | [d], r, e =>
    obtain ⟨v, rfl, rv⟩ := r.one'
    cases rv with
    | int i => cases e; exact ⟨i, rfl, q _ H G (.refl s) (.int _)⟩
    | _ => cases e
  | [], r, e => cases e
  | _ :: _ :: _, r, e => simp [gAbs] at e
/-- tuple(x), list(x) of a list or a tuple -/
def gTuple : List D → Option D
  | [.lst ds] => some (.tup ds)
  | [.tup ds] => some (.tup ds)
  | _ => none
theorem co_tuple : CallOk K cl (fun xs H Q => ∃ p ys, xs = [.ref p] ∧ ((SqL K H p ys ∧ ∀ l, H l = none → Q (.ref l) (upd H l (.tup ys))) ∨ (SqT K H p ys ∧ Q (.ref p) H))) gTuple := fun H G xs ds z Q s r e q => by
  match ds, r, e with
  | [d], r, e =>
    obtain ⟨v, rfl, rv⟩ := r.one'
    cases rv with
    | @lst a xs ds h1 h2 =>
      cases e
      refine ⟨a, xs, rfl, .inl ⟨.inl (.inl (s _ _ h1)), fun l nl => ?_⟩⟩
      have gr := Grow.froze s nl (.tup xs)
      exact q _ _ _ gr (.tup (.inl (.inl upd_same)) (h2.mono gr.gk))
    | @tup a xs ds h1 h2 =>
      cases e
      exact ⟨a, xs, rfl, .inr ⟨s.sqT h1, q _ H G (.refl s) (.tup h1 h2)⟩⟩
    | _ => cases e
  | [], r, e => cases e
  | _ :: _ :: _, r, e => simp [gTuple] at e
def gList : List D → Option D
  | [.lst ds] => some (.lst ds)
  | [.tup ds] => some (.lst ds)
  | [.scr ns] => some (.lst (ns.map D.int))
  | _ => none
theorem cn_list : CallNew K cl (fun xs H Q => ∃ p ys, xs = [.ref p] ∧ (SqL K H p ys ∨ SqT K H p ys) ∧ ∀ l, H l = none → Q (.ref l) (upd H l (.lst ys))) gList := fun H G xs ds z Q s r e q => by
  match ds, r, e with
  | [d], r, e =>
    obtain ⟨v, rfl, rv⟩ := r.one'
    cases rv with
    | @lst a xs ds h1 h2 =>
      cases e
      exact ⟨a, xs, rfl, .inl (.inl (.inl (s _ _ h1))), fun l nl => q l (.lst xs) nl ⟨xs, upd_same, h2⟩⟩
    | @tup a xs ds h1 h2 =>
      cases e
      exact ⟨a, xs, rfl, .inr (s.sqT h1), fun l nl => q l (.lst xs) nl ⟨xs, upd_same, h2⟩⟩
    | @scr a ns h1 =>
      cases e
      exact ⟨a, _, rfl, .inl (s.sqL h1), fun l nl => q l (.lst (ns.map V.int)) nl ⟨_, upd_same, RepL.of_ints ns⟩⟩
    | _ => cases e
  | [], r, e => cases e
  | _ :: _ :: _, r, e => simp [gList] at e
end
section
variable {c : Cf} {X : Cx} {e : Expr} {es : List Expr} {fe fb : DE} {fs : DA} {p pos : Pos}
theorem je_len (hg : Gl X "len") (hm : X.mg "len" = none) (ha : JA c X (e :: es) fs) (he : starEach (e :: es) X.env = (false, eval e X.env) :: starEach es X.env := by rfl) (hpl : (backTo pos (starEach es X.env)).any (·.1) = false := by rfl) :
    JE c X (.Call (.Name "len" p) (e :: es) [] pos) (dCallB gLen fs) := je_cb (pe_callB call_len hg hm PySem.boot_len (paS X (e :: es)) (by decide) (by decide) he hpl) co_len ha
theorem je_callint (hg : Gl X "int") (hm : X.mg "int" = none) (ha : JA c X (e :: es) fs) (he : starEach (e :: es) X.env = (false, eval e X.env) :: starEach es X.env := by rfl) (hpl : (backTo pos (starEach es X.env)).any (·.1) = false := by rfl) :
    JE c X (.Call (.Name "int" p) (e :: es) [] pos) (dCallB gInt1 fs) := je_cb (pe_callTy call_int1 hg hm (by decide +kernel) (paS X (e :: es)) (by decide) (by decide) he hpl) co_int ha
theorem je_abs (hg : Gl X "abs") (hm : X.mg "abs" = none) (ha : JA c X (e :: es) fs) (he : starEach (e :: es) X.env = (false, eval e X.env) :: starEach es X.env := by rfl) (hpl : (backTo pos (starEach es X.env)).any (·.1) = false := by rfl) :
    JE c X (.Call (.Name "abs" p) (e :: es) [] pos) (dCallB gAbs fs) := je_cb (pe_callB call_abs hg hm (by decide +kernel) (paS X (e :: es)) (by decide) (by decide) he hpl) co_abs ha
theorem je_calltuple (hg : Gl X "tuple") (hm : X.mg "tuple" = none) (ha : JA c X (e :: es) fs) (he : starEach (e :: es) X.env = (false, eval e X.env) :: starEach es X.env := by rfl) (hpl : (backTo pos (starEach es X.env)).any (·.1) = false := by rfl) :
    JE c X (.Call (.Name "tuple" p) (e :: es) [] pos) (dCallB gTuple fs) := je_cb (pe_callTy call_tuple_of hg hm (by decide +kernel) (paS X (e :: es)) (by decide) (by decide) he hpl) co_tuple ha
theorem jf_calllist (hg : Gl X "list") (hm : X.mg "list" = none) (ha : JA c X (e :: es) fs) (he : starEach (e :: es) X.env = (false, eval e X.env) :: starEach es X.env := by rfl) (hpl : (backTo pos (starEach es X.env)).any (·.1) = false := by rfl) :
    JF c X (.Call (.Name "list" p) (e :: es) [] pos) (dCallB gList fs) := jf_cb (pe_callTy call_list_of hg hm (by decide +kernel) (paS X (e :: es)) (by decide) (by decide) he hpl) cn_list ha
/-! ### subscripts -/
def idxD : D → D → Option D
  | .lst ds, .int i => atI ds i
  | .tup ds, .int i => atI ds i
  | .tpn ds, .int i => atI ds i
  | .str z, .int i => if z.length ≤ sizeLine then (atI z.cps.toList i).map fun c => .str ⟨#[c]⟩ else none
  | _, _ => none
theorem RepL.atI {K : PySem.W.Frag} {cl : Cw} {G : Hp} {vs : List V} {ds : List D} (r : RepL K cl G vs ds) {i : Int} {d : D} (e : L2.atI ds i = some d) : ∃ v, L2.atI vs i = some v ∧ Rep K cl G v d := by
  unfold L2.atI at e ⊢
  rw [r.length]
  cases q : ixN ds.length i with
  | none => rw [q] at e; cases e
  | some j =>
    rw [q] at e
    exact r.get (i := j) e
theorem bin_ixH {K : PySem.W.Frag} {cl : Cw} {H G : Hp} {x y : V} {d e z : D} {Q : VK} (s : Sub G H) (r1 : Rep K cl G x d) (r2 : Rep K cl G y e) (g : idxD d e = some z) (q : ∀ u, Rep K cl G u z → Q u H) : rIx K x y H Q := by
  cases r1 with
  | @lst a xs ds h1 h2 =>
    cases r2 with
    | int i =>
      obtain ⟨v, e1, e2⟩ := h2.atI g
      exact .inl ⟨a, xs, i, v, rfl, rfl, .inl (.inl (s _ _ h1)), e1, q v e2⟩
    | _ => cases g
  | @tup a xs ds h1 h2 =>
    cases r2 with
    | int i =>
      obtain ⟨v, e1, e2⟩ := h2.atI g
      exact .inr (.inl ⟨a, xs, i, v, rfl, rfl, s.sqT h1, e1, q v e2⟩)
    | _ => cases g
  | @tpn a ob xs ds h1 hn hc h2 =>
    cases r2 with
    | int i =>
      obtain ⟨v, e1, e2⟩ := h2.atI g
      exact .inr (.inl ⟨a, xs, i, v, rfl, rfl, .inl (.inr ⟨_, s _ _ h1⟩), e1, q v e2⟩)
    | _ => cases g
  | str zz =>
    cases r2 with
    | int i =>
      simp only [idxD] at g
      by_cases hl : zz.length ≤ sizeLine
      · rw [if_pos hl, Option.map_eq_some_iff] at g
        obtain ⟨cc, e1, rfl⟩ := g
        exact .inr (.inr ⟨zz, i, cc, rfl, rfl, hl, e1, q _ (.str _)⟩)
      · rw [if_neg hl] at g; cases g
    | _ => cases g
  | _ => cases g
theorem bin_ix {K : PySem.W.Frag} {cl : Cw} : BinOk K cl (rIx K) idxD := fun H G x y d e z Q s r1 r2 g q => bin_ixH s r1 r2 g fun u ru => q u H G (.refl s) ru
theorem je_ix {a b : Expr} {fa : DE} (ha : JE c X a fa) (hb : JE c X b fb) (hs : PlainIx b := by exact fun _ _ => rfl) : JE c X (.Subscript a b pos) (dBin idxD fa fb) :=
  je_of (pe_ix ix_seq (peS X a) (peS X b) hs) fun R H0 G0 H G σ δ Q k h => bin_ok bin_ix ha hb k h
/-- x[i] of a variable that is owned (or not) -/
def look (δ : DEnv) (i : Nat) : Option D := match δ[i]? with
  | some (.val d) => some d
  | some s => s.cont
  | none => none
def dIxV (j : Nat) (fb : DE) : DE := fun δ => match look δ j with
  | some _ => (fb δ).bind fun y δ1 => match (look δ1 j).bind fun d => idxD d y with
    | some z => .ok z δ1
    | none => .st
  | none => .st
theorem look_ok {K : PySem.W.Frag} {cl : Cw} {hx : Addr × Option Addr} {R : List (Nat × Addr)} {H0 G0 H G : Hp} {σ : L2.St} {δ : DEnv} (k : Ok K cl hx R H0 G0 H G σ δ) {j : Nat} {d : D} (e : look δ j = some d) :
    ∃ v, σ[j]? = some (some v) ∧ (Rep K cl G v d ∨ ∃ a, v = .ref a ∧ Own K cl H G a d) := by
  unfold look at e
  cases q : δ[j]? with
  | none => rw [q] at e; cases e
  | some s =>
    rw [q] at e
    obtain ⟨x, ex, w⟩ := k.at q
    cases s with
    | val d' => cases e; obtain ⟨v, rfl, r⟩ := w; exact ⟨v, ex, .inl r⟩
    | own d' => cases e; obtain ⟨a, rfl, _, _, r⟩ := w; exact ⟨.ref a, ex, .inr ⟨a, rfl, r⟩⟩
    | rf d' => cases e; obtain ⟨a, rfl, _, r⟩ := w; exact ⟨.ref a, ex, .inr ⟨a, rfl, r⟩⟩
    | un => cases e
    | exc c ns ds => cases e
theorem seen_ix {K : PySem.W.Frag} {cl : Cw} {H G : Hp} (s : Sub G H) {v y : V} {d e z : D} {Q : VK} (w : Rep K cl G v d ∨ ∃ a, v = .ref a ∧ Own K cl H G a d) (r2 : Rep K cl G y e) (g : idxD d e = some z) (q : ∀ u, Rep K cl G u z → Q u H) : rIx K v y H Q := by
  rcases w with w | ⟨a, rfl, w⟩
  · exact bin_ixH s w r2 g q
  · cases d with
    | lst ds =>
      obtain ⟨xs, h1, h2⟩ := w
      cases r2 with
      | int i =>
        obtain ⟨u, e1, e2⟩ := h2.atI (show L2.atI ds i = some z from g)
        exact .inl ⟨a, xs, i, u, rfl, rfl, .inl (.inl h1), e1, q u e2⟩
      | _ => simp [idxD] at g
    | dct ks ds => simp [idxD] at g
    | ins cc ns ds => simp [idxD] at g
    | _ => exact w.elim
/-- the reading of a subscript of a variable -/
theorem je_ixV {a b : Expr} {j : Nat} {fb : DE} (pa : PE X a (tVar j)) (hb : JE c X b fb) (hs : PlainIx b := by exact fun _ _ => rfl) : JE c X (.Subscript a b pos) (dIxV j fb) := by
  refine je_of (pe_ix ix_seq pa (peS X b) hs) fun R H0 G0 H G σ δ Q k h => ?_
  unfold dIxV at h
  cases q0 : look δ j with
  | none => rw [q0] at h; exact h.elim
  | some d0 =>
    rw [q0] at h
    obtain ⟨v, ev, _⟩ := look_ok k q0
    refine ⟨v, ev, ?_⟩
    refine hb R H0 G0 H G σ δ _ k (EPost.imp (EPost.bind h) fun y H1 ⟨G1, e, δ1, s1, k1, r1, h1⟩ => ?_)
    cases q1 : look δ1 j with
    | none => simp only [q1] at h1; exact h1.elim
    | some d =>
      simp only [q1, Option.bind_some] at h1
      obtain ⟨v', ev', w⟩ := look_ok k1 q1
      rw [ev] at ev'
      cases ev'
      cases q2 : idxD d e with
      | none => simp only [q2] at h1; exact h1.elim
      | some z =>
        simp only [q2] at h1
        exact seen_ix k1.sub w r1 q2 fun u ru => h1 u H1 G1 (.refl G1) k1 ru
/-- len(x) of a variable that is owned (or not) -/
def dLenV (j : Nat) : DE := fun δ => match (look δ j).bind lenD with
  | some n => .ok (.int (n : Nat)) δ
  | none => .st
theorem seen_len {K : PySem.W.Frag} {cl : Cw} {H G : Hp} (s : Sub G H) {v : V} {d : D} {n : Nat} (w : Rep K cl G v d ∨ ∃ a, v = .ref a ∧ Own K cl H G a d) (e : lenD d = some n) : LenV K v H n := by
  rcases w with w | ⟨a, rfl, w⟩
  · exact lenV_ok s w e
  · cases d with
    | lst ds => obtain ⟨xs, h1, h2⟩ := w; cases e; exact .inl ⟨xs, .inl (.inl h1), h2.length.symm⟩
    | dct ks ds => cases e
    | ins cc ns ds => cases e
    | _ => exact w.elim
theorem je_lenV {a : Expr} {j : Nat} (hg : Gl X "len") (hm : X.mg "len" = none) (pa : PE X a (tVar j)) (he : starEach [a] X.env = (false, eval a X.env) :: starEach [] X.env := by rfl) (hpl : (backTo pos (starEach [] X.env)).any (·.1) = false := by rfl) :
    JE c X (.Call (.Name "len" p) [a] [] pos) (dLenV j) := by
  refine je_of (pe_callB call_len hg hm PySem.boot_len (pa_cons pa pa_nil he) (by decide) (by decide) he hpl) fun R H0 G0 H G σ δ Q k h => ?_
  unfold dLenV at h
  cases q0 : look δ j with
  | none => rw [q0] at h; exact h.elim
  | some d =>
    rw [q0] at h
    simp only [Option.bind_some] at h
    obtain ⟨v, ev, w⟩ := look_ok k q0
    cases q1 : lenD d with
    | none => simp only [q1] at h; exact h.elim
    | some n =>
      simp only [q1] at h
      exact ⟨v, ev, v, n, rfl, seen_len k.sub w q1, h _ H G (.refl G) k (.int _)⟩
/-- the truth of such a variable -/
def dTruV (j : Nat) : DT := fun δ => match (look δ j).bind dTruth with
  | some b => .ok b δ
  | none => .st
theorem seen_tru {K : PySem.W.Frag} {cl : Cw} {H G : Hp} (s : Sub G H) {v : V} {d : D} {b : Bool} (w : Rep K cl G v d ∨ ∃ a, v = .ref a ∧ Own K cl H G a d) (e : dTruth d = some b) : TruV K v H b := by
  rcases w with w | ⟨a, rfl, w⟩
  · exact truth_ok s w e
  · cases d with
    | lst ds => obtain ⟨xs, h1, h2⟩ := w; cases e; exact .inl ⟨xs, .inl (.inl h1), by rw [h2.isEmpty]⟩
    | dct ks ds =>
      obtain ⟨xs, h1, hl, h2⟩ := w
      cases e
      refine .inr (.inr ⟨_, h1, ?_⟩)
      cases ks with
      | nil => rfl
      | cons k r =>
        cases xs with
        | nil => cases hl
        | cons x t => rfl
    | ins cc ns ds => cases e
    | _ => exact w.elim
theorem jt_truV {a : Expr} {j : Nat} (pa : PE X a (tVar j)) (he : ∀ whole, isTrue a X.env whole = (do let v ← whole; standAt a.pos; holding [v] (truthy v))) : JT c X a (dTruV j) := by
  refine jt_of (pt_truth pa he) fun R H0 G0 H G σ δ Q k h => ?_
  unfold dTruV at h
  cases q0 : look δ j with
  | none => rw [q0] at h; exact h.elim
  | some d =>
    rw [q0] at h
    simp only [Option.bind_some] at h
    obtain ⟨v, ev, w⟩ := look_ok k q0
    cases q1 : dTruth d with
    | none => simp only [q1] at h; exact h.elim
    | some n =>
      simp only [q1] at h
      exact ⟨v, ev, n, seen_tru k.sub w q1, h _ H G (.refl G) k rfl⟩

/-! ### slices -/
def dOpt (fo : Option DE) (δ : DEnv) : EO (Option Int) := match fo with
  | none => .ok none δ
  | some f => (f δ).bind fun x δ1 => match x with
    | .int i => .ok (some i) δ1
    | _ => .st
def cutL {α : Type} (xs : List α) (lo hi : Option Int) : List α := (xs.drop (HT.sIx xs.length 0 lo)).take (HT.sIx xs.length xs.length hi - HT.sIx xs.length 0 lo)
def slD (lo hi : Option Int) : D → Option D
  | .lst ds => some (.lst (cutL ds lo hi))
  | .tup ds => some (.tup (cutL ds lo hi))
  | .str z => if z.length ≤ sizeLine then some (.str (cutS z lo hi)) else none
  | _ => none
def dSl (fe : DE) (fl fh : Option DE) : DE := fun δ => (fe δ).bind fun d δ1 => (dOpt fl δ1).bind fun l δ2 => (dOpt fh δ2).bind fun h δ3 => match slD l h d with
  | some z => .ok z δ3
  | none => .st
def tO (X : Cx) (e : Option Expr) : TO := match e with
  | none => tNoPart
  | some e => tPart (tE X e)
theorem poS (X : Cx) : ∀ (e : Option Expr), PO X e (tO X e)
  | none => po_none
  | some e => po_some (peS X e)
/-- an optional part -/
inductive JO (c : Cf) (X : Cx) : Option Expr → Option DE → Prop
  | none : JO c X none none
  | some {e : Expr} {f : DE} : JE c X e f → JO c X (some e) (some f)
theorem JO.run {o : Option Expr} {fo : Option DE} (h : JO c X o fo) {R : List (Nat × Addr)} {H0 G0 H G : Hp} {σ : L2.St} {δ : DEnv} {Q : Option Int → Hp → Prop} (k : (c.fx X R H0 G0).Ok H G σ δ)
    (hp : EPost (c.fx X R H0 G0) c.W σ (fun _ (a b : Option Int) => a = b) G (dOpt fo δ) Q) : tO X o σ H Q := by
  cases h with
  | none => exact hp Option.none H G (.refl G) k rfl
  | some he =>
    refine he R H0 G0 H G σ δ _ k (EPost.imp (EPost.bind (rel := relD X.K c.cl) hp) fun x H1 ⟨G1, d, δ1, s1, k1, r1, h1⟩ => ?_)
    cases r1 with
    | int i => exact ⟨i, rfl, h1 (Option.some i) H1 G1 (.refl G1) k1 rfl⟩
    | _ => exact h1.elim
def rSlAll (K : PySem.W.Frag) : V → Option Int → Option Int → Hp → VK → Prop := fun x lo hi H Q => rSlL K x lo hi H Q ∨ (rSlA K x lo hi H Q ∨ rSlS x lo hi H Q)
theorem sl_all : SlR X (rSlAll X.K) := sl_list.or (sl_tupA.or sl_str)
theorem je_slice {e : Expr} {lo hi : Option Expr} {fe : DE} {fl fh : Option DE} {p2 : Pos} (he : JE c X e fe) (hl : JO c X lo fl) (hh : JO c X hi fh) : JE c X (.Subscript e (.Slice lo hi none p2) pos) (dSl fe fl fh) := by
  refine je_of (pe_slice sl_all (peS X e) (poS X lo) (poS X hi)) fun R H0 G0 H G σ δ Q k h => ?_
  refine he R H0 G0 H G σ δ _ k (EPost.imp (EPost.bind h) fun x H1 ⟨G1, d, δ1, s1, k1, r1, h1⟩ => ?_)
  refine hl.run k1 (EPost.imp (EPost.bind (rel := fun _ (a b : Option Int) => a = b) h1) fun l H2 ⟨G2, l', δ2, s2, k2, r2, h2⟩ => ?_)
  have r2 : l = l' := r2
  subst r2
  refine hh.run k2 (EPost.imp (EPost.bind (rel := fun _ (a b : Option Int) => a = b) h2) fun u H3 ⟨G3, u', δ3, s3, k3, r3, h3⟩ => ?_)
  have r3 : u = u' := r3
  subst r3
  have r1 : Rep X.K c.cl G3 x d := Rep.mono (s2.trans s3) r1
  have cut : ∀ {xs : List V} {ds : List D} {G : Hp}, RepL X.K c.cl G xs ds → RepL X.K c.cl G (cutV xs l u) (cutL ds l u) := fun {xs ds G} r => by
    unfold cutV cutL
    rw [r.length]
    exact (r.drop _).take _
  cases r1 with
  | @lst a xs ds q1 q2 =>
    refine Or.inl ⟨a, xs, rfl, .inl (.inl (k3.sub _ _ q1)), fun p np => ?_⟩
    have gr := Grow.froze k3.sub np (.lst (cutV xs l u))
    exact h3 _ _ _ gr.gk (k3.grow gr) (.lst upd_same ((cut q2).mono gr.gk))
  | @tup a xs ds q1 q2 =>
    refine Or.inr (Or.inl ⟨a, xs, rfl, k3.sub.sqT q1, fun hw => ?_, fun hw p np => ?_⟩)
    · have e : cutL ds l u = ds := by
        unfold cutL
        rw [q2.length] at hw
        rw [hw.1, hw.2, List.drop_zero, Nat.sub_zero]
        exact List.take_length
      refine h3 _ H3 G3 (.refl G3) k3 ?_
      show Rep X.K c.cl G3 (.ref a) (.tup (cutL ds l u))
      rw [e]
      exact .tup q1 q2
    · have gr := Grow.froze k3.sub np (.tup (cutV xs l u))
      exact h3 _ _ _ gr.gk (k3.grow gr) (.tup (.inl (.inl upd_same)) ((cut q2).mono gr.gk))
  | str z =>
    by_cases hz : z.length ≤ sizeLine
    · simp only [slD, if_pos hz] at h3
      exact Or.inr (Or.inr ⟨z, rfl, hz, h3 _ H3 G3 (.refl G3) k3 (.str _)⟩)
    · simp only [slD, if_neg hz] at h3; exact h3.elim
  | _ => exact h3.elim

/-! ### stores into owned objects -/
/-- a variable's new content -/
def putV (j : Nat) (d : D) (δ : DEnv) : Option DEnv := match δ[j]? with
  | some s => if isO s = true then some (δ.set j (s.put d)) else none
  | none => none
theorem ownd_put {K : PySem.W.Frag} {cl : Cw} {hx : Addr × Option Addr} {R : List (Nat × Addr)} {H0 G0 H G : Hp} {σ : L2.St} {δ δ' : DEnv} (k : Ok K cl hx R H0 G0 H G σ δ) {j : Nat} {d : D} (e : putV j d δ = some δ') :
    ∃ a, σ[j]? = some (some (.ref a)) ∧ ∀ o, Own K cl (upd H a o) G a d → Ok K cl hx R H0 G0 (upd H a o) G σ δ' := by
  unfold putV at e
  cases q : δ[j]? with
  | none => rw [q] at e; cases e
  | some s =>
    rw [q] at e
    dsimp only at e
    cases hO : isO s with
    | false => rw [hO] at e; simp at e
    | true =>
      rw [hO] at e
      simp only [if_true] at e
      cases e
      obtain ⟨x, ex, w⟩ := k.at q
      obtain ⟨a, d0, rfl, ga, ow, _⟩ := w.ex hO
      obtain ⟨u, hu⟩ := ow.ex
      have hj : j < δ.length := (List.getElem?_eq_some_iff.mp q).1
      refine ⟨a, ex, fun o w' => ?_⟩
      have fr : Frm [a] H G (upd H a o) G := ⟨.refl G, fun b v z => by rw [upd_ne (ne_of_none z ga)]; exact k.sub b v z, fun b v z hb => by rw [upd_ne (fun z' => hb (by rw [z']; exact List.mem_cons_self))]; exact z, fun b v z => .inl z⟩
      refine k.frame fr (by rw [List.length_set]) (fun i t e1 o1 => ?_) (fun i t b e1 o1 e2 => ?_) fun b hb => ?_
      · have : i ≠ j := fun z => by rw [z, q] at e1; cases e1; rw [hO] at o1; cases o1
        rw [List.getElem?_set_ne (Ne.symm this)]; exact e1
      · by_cases hi : i = j
        · subst hi
          rw [q] at e1; cases e1
          rw [ex] at e2; cases e2
          exact ⟨d, by rw [List.getElem?_set_self hj], ga, w'⟩
        · obtain ⟨a', d', z, ga', ow', sd⟩ := (k.sl i t _ e1 e2).ex o1
          cases z
          have ne : b ≠ a := fun z => hi (k.sep i j t s a e1 q o1 hO (by rw [e2, z]) ex)
          refine ⟨d', by rw [List.getElem?_set_ne (Ne.symm hi), e1]; rcases sd with rfl | rfl <;> rfl, ga', ow'.mono (.refl G) fun v z => by rw [upd_ne ne]; exact z⟩
      · have : b = a := by simpa using hb
        subst this
        exact ⟨j, s, q, hO, ex⟩
/-- x[i] = e -/
def sPut (j : Nat) (fe fi : DE) : DS := fun δ => (fe δ).to fun v δ1 => match look δ1 j with
  | some _ => (fi δ1).to fun i δ2 => match look δ2 j, i with
    | some (.lst ds), .int n => (match ixN ds.length n with
      | some m => oNx (putV j (.lst (ds.set m v)) δ2)
      | none => .st)
    | _, _ => .st
  | none => .st
theorem look_own {K : PySem.W.Frag} {cl : Cw} {hx : Addr × Option Addr} {R : List (Nat × Addr)} {H0 G0 H G : Hp} {σ : L2.St} {δ : DEnv} (k : Ok K cl hx R H0 G0 H G σ δ) {j : Nat} {d e : D} {δ' : DEnv} (e1 : look δ j = some d) (e2 : putV j e δ = some δ') {a : Addr} (ea : σ[j]? = some (some (.ref a))) : Own K cl H G a d := by
  unfold putV at e2
  unfold look at e1
  cases q : δ[j]? with
  | none => rw [q] at e2; cases e2
  | some s =>
    rw [q] at e1 e2
    obtain ⟨x, ex, w⟩ := k.at q
    rw [ea] at ex
    cases ex
    cases s with
    | own d' => cases e1; obtain ⟨a', z, _, _, r⟩ := w; cases z; exact r
    | rf d' => cases e1; obtain ⟨a', z, _, r⟩ := w; cases z; exact r
    | un => cases e1
    | val d' => simp [isO] at e2
    | exc c ns ds => cases e1
theorem js_put {o i e : Expr} {j : Nat} {fe fi : DE} {tp : Pos} (po : PE X o (tVar j)) (hi : JE c X i fi) (he : JE c X e fe)
    (ha : ∀ v, assign (.Subscript o i tp) X.env v = (do
      let ov ← holding [v] (eval o X.env)
      let iv ← holding [v, ov] (eval i X.env)
      standAt tp
      holding [v, ov, iv] (setItem ov iv v)
      release [v, ov, iv] []) := by intro _; rfl)
    (hs : swapsWithSole [.Subscript o i tp] e pos.line X.env = pure false := by rfl) (hw : swappedStores [.Subscript o i tp] e X.env = pure none := by rfl)
    (h1 : (assignEach [.Subscript o i tp] X.env).map (·.2) = [assign (.Subscript o i tp) X.env] := by rfl) : JS c X (.Assign [.Subscript o i tp] e pos) (sPut j fe fi) := by
  refine js_of (ps_asg (peS X e) (pg_sub po (peS X i) set_list ha) hs hw h1) fun R H0 G0 H G σ δ D' k h => ?_
  refine he R H0 G0 H G σ δ _ k (EPost.imp (SPost.ofE h) fun v H1 ⟨G1, d, δ1, s1, k1, r1, h1⟩ => ?_)
  cases q0 : look δ1 j with
  | none => rw [q0] at h1; exact h1.elim
  | some d0 =>
    rw [q0] at h1
    obtain ⟨u, eu, _⟩ := look_ok k1 q0
    refine ⟨u, eu, ?_⟩
    refine hi R H0 G0 H1 G1 σ δ1 _ k1 (EPost.imp (SPost.ofE h1) fun y H2 ⟨G2, e2, δ2, s2, k2, r2, h2⟩ => ?_)
    cases q1 : look δ2 j with
    | none => simp only [q1] at h2; exact h2.elim
    | some d1 =>
      cases r2 with
      | int n =>
        cases d1 with
        | lst ds =>
          simp only [q1] at h2
          cases q2 : ixN ds.length n with
          | none => simp only [q2] at h2; exact h2.elim
          | some m =>
            simp only [q2] at h2
            cases q3 : putV j (.lst (ds.set m d)) δ2 with
            | none => simp only [q3] at h2; exact h2.elim
            | some δ3 =>
              simp only [q3] at h2
              obtain ⟨a, ea, kk⟩ := ownd_put k2 q3
              rw [eu] at ea
              cases ea
              obtain ⟨xs, x1, x2⟩ := look_own k2 q1 q3 eu
              refine ⟨a, xs, n, m, rfl, rfl, x1, by rw [x2.length]; exact q2, ?_⟩
              exact h2 σ _ G2 (.refl G2) (kk _ ⟨_, upd_same, x2.set m (Rep.mono s2 r1)⟩)
        | _ => simp only [q1] at h2; exact h2.elim
      | _ => cases d1 <;> (simp only [q1] at h2; exact h2.elim)
/-- x.append(e) as a statement -/
def sApp (j : Nat) (fe : DE) : DS := fun δ => match look δ j with
  | some (.lst _) => (fe δ).to fun v δ1 => (match look δ1 j with
    | some (.lst ds) => if ds.length < sizeLine then oNx (putV j (.lst (ds ++ [v])) δ1) else .st
    | _ => .st)
  | _ => .st
theorem js_app {o e : Expr} {j : Nat} {fe : DE} {ap cp : Pos} (po : PE X o (tVar j)) (he : JE c X e fe)
    (hbase : attributeBase o "append" X.env (eval o X.env) = eval o X.env := by rfl)
    (hfew : ((backTo cp (starEach (e :: []) X.env)).all (fun x => !x.1) && (backToKw cp (keywordEach [] X.env)).all (fun x => x.1.isSome)
      && decide ((e :: ([] : List Expr)).length + ([] : List Keyword).length + (if ([] : List Keyword).isEmpty then 0 else 1) < 30)) = true := by rfl)
    (hline : (ap.endLine == cp.line) = true := by rfl) (hs : starEach (e :: []) X.env = (false, eval e X.env) :: starEach [] X.env := by rfl) (hplain : (backTo cp (starEach [] X.env)).any (·.1) = false := by rfl)
    (hsw : swapsWith (.Call (.Attribute o "append" ap) [e] [] cp) none pos.line X.env = pure false := by rfl) : JS c X (.Expr (.Call (.Attribute o "append" ap) [e] [] cp) pos) (sApp j fe) := by
  refine js_of (ps_expr (pe_bm PySem.F.plainAttrs_list PySem.F.slot_list_append PySem.F.type_list_append mt_append po (pa_cons (peS X e) pa_nil hs) hbase hfew hline hs hplain) hsw) fun R H0 G0 H G σ δ D' k h => ?_
  unfold sApp at h
  cases q0 : look δ j with
  | none => rw [q0] at h; exact h.elim
  | some d0 =>
    cases d0 with
    | lst ds0 =>
      rw [q0] at h
      dsimp only at h
      obtain ⟨u, eu, w0⟩ := look_ok k q0
      refine ⟨u, eu, ?_, ?_⟩
      · rcases w0 with w0 | ⟨a, rfl, xs, w1, w2⟩
        · cases w0 with
          | @lst a xs _ w1 w2 => exact .inl ⟨rfl, xs, .inl (.inl (k.sub _ _ w1))⟩
        · exact .inl ⟨rfl, xs, .inl (.inl w1)⟩
      refine he R H0 G0 H G σ δ _ k (EPost.imp (SPost.ofE h) fun v H1 ⟨G1, d, δ1, s1, k1, r1, h1⟩ => ?_)
      cases q1 : look δ1 j with
      | none => simp only [q1] at h1; exact h1.elim
      | some d1 =>
        cases d1 with
        | lst ds =>
          simp only [q1] at h1
          by_cases hl : ds.length < sizeLine
          · rw [if_pos hl] at h1
            cases q3 : putV j (.lst (ds ++ [d])) δ1 with
            | none => simp only [q3] at h1; exact h1.elim
            | some δ3 =>
              simp only [q3] at h1
              obtain ⟨a, ea, kk⟩ := ownd_put k1 q3
              rw [eu] at ea
              cases ea
              obtain ⟨xs, x1, x2⟩ := look_own k1 q1 q3 eu
              refine ⟨a, xs, v, rfl, rfl, x1, by rw [x2.length]; exact hl, ?_⟩
              exact h1 σ _ G1 (.refl G1) (kk _ ⟨_, upd_same, x2.append (.cons r1 .nil)⟩)
          · rw [if_neg hl] at h1; exact h1.elim
        | _ => simp only [q1] at h1; exact h1.elim
    | _ => rw [q0] at h; exact h.elim
/-- x op= e -/
def sAug (i : Nat) (g : D → D → Option D) (fe : DE) : DS := fun δ => match δ[i]? with
  | some (.val x) => (fe δ).to fun y δ1 => (match g x y with
    | some z => oNx (setV i z δ1)
    | none => .st)
  | _ => .st
end
end DL

set_option maxRecDepth 100000
set_option maxHeartbeats 4000000
namespace DL
open PySem PySem.Spec PyProof.Rows L2

/-! ### isinstance of built-in types -/
def tyD : D → Option String
  | .non => some "NoneType"
  | .bl _ => some "bool"
  | .int _ => some "int"
  | .str _ => some "str"
  | .lst _ => some "list"
  | .tup _ => some "tuple"
  | .tpn _ => some "tuple"
  | .dct _ _ => some "dict"
  | _ => none
def subT (t T : String) : Bool := t == T || (t == "bool" && T == "int")
def tyNames : List String := ["NoneType", "bool", "int", "str", "list", "tuple", "dict"]
def tyAsked : List String := ["bool", "int", "str", "list", "tuple", "dict"]
theorem kit_all : (tyNames.all fun t => tyAsked.all fun T => decide (kitB t T = some (subT t T))) = true := by decide +kernel
theorem kit_one {K : PySem.W.Frag} {t T : String} (ht : t ∈ tyNames) (hT : T ∈ tyAsked) : PySem.W.kitOne K (.type t) (.type T) = some (subT t T) :=
  kit_ty (of_decide_eq_true (List.all_eq_true.mp (List.all_eq_true.mp kit_all t ht) T hT))
theorem tyD_mem {d : D} {t : String} (e : tyD d = some t) : t ∈ tyNames := by
  cases d <;> simp [tyD] at e <;> subst e <;> decide
theorem tyD_ok {K : PySem.W.Frag} {cl : Cw} {H G : Hp} (s : Sub G H) {v : V} {d : D} {t : String} (r : Rep K cl G v d) (e : tyD d = some t) : TyX K H v (.type t) := by
  cases r with
  | non => cases e; exact .base .non
  | bl b => cases e; exact .base (.bl b)
  | int i => cases e; exact .base (.int i)
  | str x => cases e; exact .base (.str x)
  | lst h1 h2 => cases e; exact .base (.lst (s _ _ h1))
  | tup h1 h2 =>
    cases e
    rcases s.sqT h1 with (h | ⟨o, h⟩) | ⟨o, its, n, h, hc, _⟩
    · exact .base (.tup h)
    · exact .fTuple h
    · exact .kTuple h hc
  | dct h1 _ h2 => cases e; exact .base (.dK (s _ _ h1))
  | ins _ _ _ _ => cases e
  | scr _ => cases e
  | rng _ => cases e
  | set _ _ => cases e
  | tpn h1 _ _ _ => cases e; exact .fTuple (s _ _ h1)
def dIsi (Ts : List String) (fe : DE) : DE := fun δ => (fe δ).bind fun d δ1 => match tyD d with
  | some t => .ok (.bl (Ts.any (subT t))) δ1
  | none => .st
section
variable {c : Cf} {X : Cx} {e : Expr} {es : List Expr} {fe fb : DE} {fs : DA} {p pos pt p2 : Pos}
theorem je_isi {x T : Str} {T' : String} (hT : T' ∈ tyAsked) (hg : Gl X "isinstance") (hm : X.mg "isinstance" = none) (pe2 : PE X (.Name T pt) (tC (.ty T'))) (he : JE c X e fe)
    (hs : starEach (e :: [.Name T pt]) X.env = (false, eval e X.env) :: starEach [.Name T pt] X.env := by rfl) (hs2 : starEach [.Name T pt] X.env = (false, eval (.Name T pt) X.env) :: starEach [] X.env := by rfl) (hpl : (backTo pos (starEach [.Name T pt] X.env)).any (·.1) = false := by rfl) :
    JE c X (.Call (.Name "isinstance" p) [e, .Name T pt] [] pos) (dIsi [T'] fe) := by
  refine je_of (pe_callB call_isi hg hm (by decide +kernel) (pa_cons (peS X e) (pa_cons pe2 pa_nil hs2) hs) (by decide) (by decide) hs hpl) fun R H0 G0 H G σ δ Q k h => ?_
  refine he R H0 G0 H G σ δ _ k (EPost.imp (EPost.bind h) fun x H1 ⟨G1, d, δ1, s1, k1, r1, h1⟩ => ?_)
  cases q : tyD d with
  | none => rw [q] at h1; exact h1.elim
  | some t =>
    rw [q] at h1
    refine ⟨x, .ty T', _, _, _, rfl, .ty T', tyD_ok k1.sub r1 q, kit_one (tyD_mem q) hT, ?_⟩
    have := h1 (.bl ([T'].any (subT t))) H1 G1 (.refl G1) k1 (.bl _)
    simpa using this
theorem je_isi2 {T S : Str} {T' S' : String} {x1 : Nat} {ps : Pos} (hT : T' ∈ tyAsked) (hS : S' ∈ tyAsked) (hg : Gl X "isinstance") (hm : X.mg "isinstance" = none) (pe2 : PE X (.Name T pt) (tC (.ty T'))) (pe3 : PE X (.Name S p2) (tC (.ty S'))) (he : JE c X e fe)
    (hs : starEach (e :: [.Tuple [.Name T pt, .Name S p2] x1 ps]) X.env = (false, eval e X.env) :: starEach [.Tuple [.Name T pt, .Name S p2] x1 ps] X.env := by rfl) (hs2 : starEach [.Tuple [.Name T pt, .Name S p2] x1 ps] X.env = (false, eval (.Tuple [.Name T pt, .Name S p2] x1 ps) X.env) :: starEach [] X.env := by rfl)
    (hs3 : starEach [.Name T pt, .Name S p2] X.env = (false, eval (.Name T pt) X.env) :: starEach [.Name S p2] X.env := by rfl) (hs4 : starEach [.Name S p2] X.env = (false, eval (.Name S p2) X.env) :: starEach [] X.env := by rfl)
    (hpl : (backTo pos (starEach [.Tuple [.Name T pt, .Name S p2] x1 ps] X.env)).any (·.1) = false := by rfl) :
    JE c X (.Call (.Name "isinstance" p) [e, .Tuple [.Name T pt, .Name S p2] x1 ps] [] pos) (dIsi [T', S'] fe) := by
  refine je_of (pe_callB call_isiT hg hm (by decide +kernel) (pa_cons (peS X e) (pa_cons (pe_tup (pa_cons pe2 (pa_cons pe3 pa_nil hs4) hs3)) pa_nil hs2) hs) (by decide) (by decide) hs hpl) fun R H0 G0 H G σ δ Q k h => ?_
  refine he R H0 G0 H G σ δ _ k (EPost.imp (EPost.bind h) fun x H1 ⟨G1, d, δ1, s1, k1, r1, h1⟩ => ?_)
  refine ⟨by show 2 ≤ sizeLine; decide, fun pp np => ?_⟩
  cases q : tyD d with
  | none => rw [q] at h1; exact h1.elim
  | some t =>
    rw [q] at h1
    have gr := Grow.fresh k1.sub np (.tup [V.ty T', V.ty S'])
    refine ⟨x, pp, _, _, _, _, rfl, upd_same, .cons (.ty T') (.cons (.ty S') .nil), tyD_ok gr.sub r1 q, kitAny_cons (r := [T', S'].any (subT t)) (kit_one (tyD_mem q) hT) (fun hb => kitAny_cons (kit_one (tyD_mem q) hS) (fun hb2 => ?_) fun hb2 => ?_) (fun hb => ?_), ?_⟩
    · rw [kitAny_nil]; simp [hb, hb2]
    · simp [hb, hb2]
    · simp [hb]
    · exact h1 _ _ _ gr.gk (k1.grow gr) (.bl _)
/-! ### in -/
/-! ### x op= y by value -/
end

/-! ### raise, try -/
/-- what the written part says of an own exception class without __init__ of its own -/
structure ExcC (K : PySem.W.Frag) (mg : Str → Option Value) (cl : Cw) (x : Str) (C : Addr) : Prop where
  gC : mg x = some (.ref C)
  q : PySem.W.excIn K C [.type "ValueError", .type "Exception", .type "BaseException", .type "object"] "ValueError.__new__" = true
  kC : PySem.W.keepIn K (.ref C) = true
  exC : PySem.W.subIn K (.ref C) (.type "BaseException") = some true
  tyC : PySem.W.typeIn K (.ref C) = some (.type "type")
  cl : cl x = some C
section
variable {c : Cf} {X : Cx} {x : Str} {C : Addr} {p pos : Pos}
/-- which handler takes which class -/
def ExmTab (K : PySem.W.Frag) (cl : Cw) (tab : Str → Str → Option Bool) : Prop := ∀ (a b : Str) (r : Bool) (A B : Addr), tab a b = some r → cl a = some A → cl b = some B → PySem.W.exmOne K (.ref A) (.ref B) = some r
def tryH (tab : Str → Str → Option Bool) : List (Str × DS) → Str → List Str → List D → DEnv → SO
  | [], cn, ns, ds, δ => .ex cn ns ds δ
  | (h, s) :: r, cn, ns, ds, δ => match tab cn h with
    | some true => (match s δ with
      | .ex _ _ _ _ => .st
      | o => o)
    | some false => tryH tab r cn ns ds δ
    | none => .st
def sTry (tab : Str → Str → Option Bool) (f : DS) (hs : List (Str × DS)) : DS := fun δ => match f δ with
  | .ex cn ns ds δ1 => tryH tab hs cn ns ds δ1
  | o => o
/-- the handlers -/
inductive HdsD (c : Cf) (X : Cx) : List ExceptHandler → List (Str × DS) → List (Value × (Addr → Value → Option Addr → TS)) → Prop
  | nil : HdsD c X [] [] []
  | cons {y : Str} {C : Addr} {b₀ : Stmt} {suite : List Stmt} {np pos' : Pos} {hds : List ExceptHandler} {hs : List (Str × DS)} {l : List (Value × (Addr → Value → Option Addr → TS))} {f : DS}
      (hc : Names X y (.ref C)) (hcl : c.cl y = some C) (hsu : ∀ (a : Addr) (oe : Obj) (cls : Value) (d : Option Addr) (pn : List (Addr × Obj)), Zc cls d oe → JSs ⟨fun _ _ _ _ => False, c.cl, c.hx⟩ (X.suite a ((a, oe) :: pn)) (b₀ :: suite) f) (r : HdsD c X hds hs l) :
      HdsD c X (.ExceptHandler (some (.Name y np)) none (b₀ :: suite) pos' :: hds) ((y, f) :: hs) ((.ref C, fun a cls d D σ H => ∀ oe pn, Zc cls d oe → (∃ vs, oe.data = .fields vs) → tSs (X.suite a ((a, oe) :: pn)) (b₀ :: suite) D σ H) :: l)
theorem HdsD.ok {hds : List ExceptHandler} {hs : List (Str × DS)} {l : List (Value × (Addr → Value → Option Addr → TS))} (h : HdsD c X hds hs l) : HdsOk X hds l := by
  induction h with
  | nil => exact .nil
  | cons hc hcl hsu r ih => exact .cons hc (fun a oe cls d pn z hf => ⟨fun pins s σ H D I q => q oe pn z hf pins s I⟩) ih
theorem HdsD.wish {tab : Str → Str → Option Bool} (ht : ExmTab X.K c.cl tab) {hds : List ExceptHandler} {hs : List (Str × DS)} {l : List (Value × (Addr → Value → Option Addr → TS))} (h : HdsD c X hds hs l) {R : List (Nat × Addr)} {H0 G0 H G : Hp} {σ : L2.St} {δ : DEnv} {D' : Ends} {cn : Str} {ns : List Str} {ds : List D} {cls : Value} {dd : Option Addr}
    (k : (c.fx X R H0 G0).Ok H G σ δ) (xo : XOk X.K c.cl G cn ns ds cls dd) (q : SPost (c.fx X R H0 G0) c.W G (tryH tab hs cn ns ds δ) D') : wMany X.K c.W D' l cls dd σ H := by
  obtain ⟨A, rfl, hA, xr⟩ := xo
  induction h with
  | nil => exact q (.ref A) dd σ H G (.refl G) k ⟨A, rfl, hA, xr⟩
  | @cons y C b₀ suite np pos' hds hs l f hc hcl hsu r ih =>
    unfold tryH at q
    cases e : tab cn y with
    | none => rw [e] at q; exact q.elim
    | some b =>
      rw [e] at q
      refine ⟨b, ht cn y b A C e hA hcl, fun hb a na => ?_, fun hb => ?_⟩
      · subst hb
        dsimp only at q
        intro oe pn z hf
        refine hsu a oe (.ref A) dd pn z R H0 G0 H G σ δ D' k ?_
        cases e2 : f δ with
        | ex cn' ns' ds' δ' => rw [e2] at q; exact q.elim
        | nx δ' => rw [e2] at q; exact q
        | rt d δ' => rw [e2] at q; exact q
        | ro d δ' => rw [e2] at q; exact q
        | bk δ' => rw [e2] at q; exact q
        | ct δ' => rw [e2] at q; exact q
        | st => rw [e2] at q; exact q
      · subst hb
        exact ih q
end

/-! ### the end -/
def spTrue (K : PySem.W.Frag) : Sp := fun vs H Q _ => ∃ (a : Addr) (ns : List Int), vs = [.ref a] ∧ SqL K H a (ns.map V.int) ∧ ns.length ≤ 63 ∧ ∀ H', Q (.bl true) H'
theorem law_true {P : Program} {w : World} {K : PySem.W.Frag} {mg : Str → Option Value} {base : Heap} {cl : Cw} {k : Nat} {f : Addr} {fd : FuncData} {ps : List Str} {fn : List D → FO} (F : FnOk P w K mg base (L2.CX P w) k f fd ps (SpF K cl [false] fn))
    (h : ∀ ns : List Int, ns.length ≤ 63 → fn [.scr ns] = .ret (.bl true) []) : FnOk P w K mg base (L2.CX P w) k f fd ps (spTrue K) := by
  refine F.imp fun vs H Q E q => ?_
  obtain ⟨a, ns, rfl, hS, hl, q⟩ := q
  refine ⟨H, [.scr ns], .refl H, .val (.scr hS) .nil, .nil, ?_⟩
  rw [h ns hl]
  intro v H' G' _ _ r
  cases r
  exact q H'
theorem cx_none {P : Program} {w : World} {H : Hp} {s s' : Shared} {e : Value} (h : L2.CX P w [] H s (fun _ _ _ => False) e s') : False := by
  obtain ⟨_, _, _, _, _, _, _, _, _, _, _, _, z⟩ := h
  exact z.elim
end DL

set_option maxRecDepth 100000
set_option maxHeartbeats 4000000
namespace DL
open PySem PySem.Spec PyProof.Rows L2
theorem hu65 {k : Nat} {A : Around} (r : Room k A) : A.units + 65 < cLine := by have := r.un; omega
theorem hu64 {k : Nat} {A : Around} (r : Room k A) : A.units + 64 < cLine := by have := r.un; omega
section
variable {c : Cf} {X : Cx} {tg e : Expr} {fe : DE} {pos : Pos}
variable {elt iter : Expr} {ifs : List Expr} {scope : Scope} {own : List (Str × Nat)} {ts : List Nat} {it : DI} {A : D → DEnv → Option DEnv} {t : DT} {el : DE} {i : Nat} {y : Str} {py spos : Pos}
/-- a, b = e -/
def sUnp (A : D → DEnv → Option DEnv) (f : DE) : DS := fun δ => (f δ).to fun d δ1 => oNx (A d δ1)
theorem js_unp {ts : List Nat} {A : D → DEnv → Option DEnv} (hg : JG c X tg ts A) (he : JE c X e fe) (hs : swapsWithSole [tg] e pos.line X.env = pure false := by rfl) (hw : swappedStores [tg] e X.env = pure none := by rfl)
    (h1 : (assignEach [tg] X.env).map (·.2) = [assign tg X.env] := by rfl) : JS c X (.Assign [tg] e pos) (sUnp A fe) := by
  refine js_of (ps_asg (peS X e) (pgS X tg) hs hw h1) fun R H0 G0 H G σ δ D' k h => ?_
  refine he R H0 G0 H G σ δ _ k (EPost.imp (SPost.ofE h) fun v H1 ⟨G1, d, δ1, s1, k1, r1, h1⟩ => ?_)
  cases q : A d δ1 with
  | none => rw [q] at h1; exact h1.elim
  | some δ2 => rw [q] at h1; exact hg R H0 G0 H1 G1 σ δ1 δ2 v d _ k1 r1 q fun σ' k' _ => h1 σ' H1 G1 (.refl G1) k'
end
end DL

set_option maxRecDepth 100000
set_option maxHeartbeats 4000000
namespace DL
open PySem PySem.Spec PyProof.Rows L2
def dRefA (j : Nat) (fs : DA) : DA := fun δ => match δ[j]? with | some s => if isO s then dRef j fs δ else .st | none => .st
section
variable {c : Cf} {X : Cx} {e : Expr} {es : List Expr} {fs : DA}
theorem ja_refA {j : Nat} (p : PE X e (tVar j)) (hr : JA c X es fs) (hs : starEach (e :: es) X.env = (false, eval e X.env) :: starEach es X.env := by rfl) : JA c X (e :: es) (dRefA j fs) := ja_ref p hr hs
end
/-- no call is left -/
theorem none_ok {P : Program} {w : World} {K : PySem.W.Frag} {mg : Str → Option Value} {base : Heap} {cl : Cw} {k : Nat} {f : Addr} {fd : FuncData} {ps : List Str} {ks : List Bool} {fn : List D → FO} (h : ∀ ds, fn ds = .st) : FnOk P w K mg base (L2.CX P w) k f fd ps (SpF K cl ks fn) := by
  have no : ∀ vs H Q E, ¬ SpF K cl ks fn vs H Q E := fun vs H Q E q => by
    obtain ⟨G, ds, _, _, _, q⟩ := q
    rw [h ds] at q
    exact q
  exact ⟨fun vs H Q E q => absurd q (no vs H Q E), fun A outer s H args us vs Q E _ _ _ _ q => absurd q (no vs H Q E)⟩
/-- a def with defaults -/
theorem def_okD {P : Program} {w : World} {K : PySem.W.Frag} {mg : Str → Option Value} {base : Heap} {cl : Cw} {x qual : Str} {st : Stmt} {f : Addr} {fd : FuncData} {N ps : List Str} {k : Nat} {ks : List Bool} {F : DS} {dvs : List V} {kws : List (Str × V)}
    (FF : FunD K x qual (defArgs st) (defBody st) (defScope st) dvs kws f fd) (S : FnScope N ps (defScope st)) (hk : ks.length = ps.length)
    (hbody : ∀ (cdv : Value) (A : Around) (outer : List Env) (s : Shared) (H : Hp) (E : XK), Room k (A.deeper (envOfC qual (defScope st) s.heap.objs.size f cdv)) →
      Takes (cxOf (L2.CX P w) P w K mg base N qual (defScope st) f cdv A outer s H E) (fun c d _ H => E c d H) →
      PassesOwn (model P w) (A.deeper (envOfC qual (defScope st) s.heap.objs.size f cdv)) (envOfC qual (defScope st) s.heap.objs.size f cdv) (cxOf (L2.CX P w) P w K mg base N qual (defScope st) f cdv A outer s H E).xe →
      JSs ⟨fun c d _ H => E c d H, cl, (0, none)⟩ (cxOf (L2.CX P w) P w K mg base N qual (defScope st) f cdv A outer s H E) (defBody st) F) :
    FnOk P w K mg base (L2.CX P w) (k + 1) f fd ps (SpF K cl ks (defF ks N.length F)) := by
  exact FF.ok S (spF_len hk) (def_read S hk hbody)
def tabOf (l : List (Str × Str × Bool)) (a b : Str) : Option Bool := (l.find? fun p => decide (p.1 = a) && decide (p.2.1 = b)).map (·.2.2)
theorem tab_ok {K : PySem.W.Frag} {cl : Cw} {l : List (Str × Str × Bool)} (h : ∀ p ∈ l, ∃ A B, cl p.1 = some A ∧ cl p.2.1 = some B ∧ PySem.W.exmOne K (.ref A) (.ref B) = some p.2.2) : ExmTab K cl (tabOf l) := fun a b r A B e ha hb => by
  unfold tabOf at e
  rw [Option.map_eq_some_iff] at e
  obtain ⟨p, e1, rfl⟩ := e
  have hm := List.mem_of_find?_eq_some e1
  have hp := List.find?_some e1
  simp only [Bool.and_eq_true, decide_eq_true_eq] at hp
  obtain ⟨A', B', q1, q2, q3⟩ := h p hm
  rw [hp.1, ha] at q1
  rw [hp.2, hb] at q2
  cases q1; cases q2
  exact q3
end DL

set_option maxRecDepth 100000
set_option maxHeartbeats 4000000
namespace DL
open PySem PySem.Spec PyProof.Rows L2

/-! ### a list or a tuple, by kind -/
def IsK (k : Bool) (h : Heap) (a : Addr) (its : Array Value) : Prop := match k with | true => h.IsTuple a its | false => h.IsList a its
def IsKi (k : Bool) (h : Heap) (it a : Addr) (i : Nat) : Prop := match k with | true => h.IsTupleIter it a i | false => h.IsListIter it a i
def itK (k : Bool) (a : Addr) : Obj := match k with
  | true => { cls := .type "tuple_iterator", data := .fields #[.ref a, .int 0 0] }
  | false => { cls := .type "list_iterator", data := .fields #[.ref a, .int 0 0] }
theorem IsK.lt {k : Bool} {h : Heap} {a : Addr} {its : Array Value} (p : IsK k h a its) : a < h.objs.size := by
  cases k with
  | true => obtain ⟨o, e, _⟩ := p; exact Heap.lt_size e
  | false => obtain ⟨o, e, _⟩ := p; exact Heap.lt_size e
theorem IsK.at {k : Bool} {h h' : Heap} {a : Addr} {its : Array Value} (p : IsK k h a its) (e : ∀ o, h.get? a = some o → h'.get? a = some o) : IsK k h' a its := by
  cases k with
  | true => exact Heap.IsTuple.at p e
  | false => exact Heap.IsList.at p e
theorem IsKi.at {k : Bool} {h h' : Heap} {it a : Addr} {i : Nat} (p : IsKi k h it a i) (e : ∀ o, h.get? it = some o → h'.get? it = some o) : IsKi k h' it a i := by
  cases k with
  | true => exact Heap.IsTupleIter.at p e
  | false => exact Heap.IsListIter.at p e
theorem IsKi.obj {k : Bool} {h : Heap} {it a : Addr} {i : Nat} (p : IsKi k h it a i) : ∃ o, h.get? it = some o ∧ ∀ v, o.data ≠ .cell v := by
  cases k with
  | true => obtain ⟨o, e, _, d⟩ := p; exact ⟨o, e, fun v q => by rw [d] at q; cases q⟩
  | false => obtain ⟨o, e, _, d⟩ := p; exact ⟨o, e, fun v q => by rw [d] at q; cases q⟩
theorem IsKi.new {k : Bool} {h : Heap} {it a : Addr} (e : h.get? it = some (itK k a)) : IsKi k h it a 0 := by
  cases k with
  | true => exact ⟨_, e, rfl, rfl⟩
  | false => exact ⟨_, e, rfl, rfl⟩
section
variable {X : Cx} {pins : List (Addr × Obj)} {σ : L2.St} {H : Hp} {s : Shared} {a : Addr} {xs ys : List V} {k : Bool}
end
/-! ### enumerate -/
/-! ### zip of two -/
/-! ### by data -/
def seqD : D → Option (List D)
  | .lst ds => some ds
  | .tup ds => some ds
  | .tpn ds => some ds
  | .scr ns => some (ns.map D.int)
  | _ => none
def enumD (n : Nat) : List D → List D
  | [] => []
  | d :: ds => .tup [.int (n : Int), d] :: enumD (n + 1) ds
def dEn (fe : DE) : DI := fun δ => (fe δ).bind fun d δ1 => match seqD d with
  | some ds => .ok (enumD 0 ds) δ1
  | none => .st
def zipD : List D → List D → List D
  | d :: ds, e :: es => .tup [d, e] :: zipD ds es
  | _, _ => []
def dZp (fa fb : DE) : DI := fun δ => (fa δ).bind fun x δ1 => (fb δ1).bind fun y δ2 => match seqD x, seqD y with
  | some ds, some es => .ok (zipD ds es) δ2
  | _, _ => .st
section
variable {c : Cf} {X : Cx} {e e2 : Expr} {fa fb : DE} {p pos tpos : Pos} {elts : List Expr} {kk : Nat}
/-! ### what is never come to -/
/-! ### list(range(..)), tuple(range(..)) -/
def dRgL (fa : DE) : DE := fun δ => (fa δ).bind fun x δ1 => match x with
  | .int j => if 0 ≤ j ∧ j ≤ 16777216 then .ok (.lst (rngD 0 j)) δ1 else .st
  | _ => .st
end
end DL

set_option maxRecDepth 100000
set_option maxHeartbeats 4000000
namespace DL
open PySem PySem.Spec PyProof.Rows L2
/-- a def that may be called: n values are written, the data dds fill up -/
def Cal (P : Program) (w : World) (K : PySem.W.Frag) (mg : Str → Option Value) (base : Heap) (cl : Cw) (k : Nat) (x : Str) (ks : List Bool) (fn : List D → FO) (dds : List D) : Prop :=
  ∃ f fd ps ds dvs, DefOk P w K mg base cl k x ks fn f fd ps ∧ Binds K fd ps ds ∧ Vals dvs ds ∧ ∀ G, RepL K cl G dvs dds
section
variable {P : Program} {w : World} {K : PySem.W.Frag} {mg : Str → Option Value} {base : Heap} {cl : Cw} {j k : Nat} {x : Str} {ks : List Bool} {fn : List D → FO} {dds : List D}
theorem Cal.mono (c : Cal P w K mg base cl j x ks fn dds) (h : j ≤ k) : Cal P w K mg base cl k x ks fn dds := by
  obtain ⟨f, fd, ps, ds, dvs, h1, h2⟩ := c
  exact ⟨f, fd, ps, ds, dvs, h1.mono h, h2⟩
end
section
variable {c : Cf} {X : Cx} {e : Expr} {es : List Expr} {fs : DA} {p pos : Pos} {k : Nat} {x : Str} {ks : List Bool} {fn : List D → FO} {dds : List D}
theorem je_callC (C : Cal X.prog X.w X.K X.mg X.base c.cl k x ks fn dds) (hr : Room k X.A) (tk : Takes X c.W) (ha : JA c X (e :: es) fs) (hg : Gl X x := by rfl)
    (hdb : (x == ("__debug__" : Str)) = false := by decide) (he : starEach (e :: es) X.env = (false, eval e X.env) :: starEach es X.env := by rfl) (hpl : (backTo pos (starEach es X.env)).any (·.1) = false := by rfl) :
    JE c X (.Call (.Name x p) (e :: es) [] pos) (dCall ks dds fn fs) := by
  obtain ⟨f, fd, ps, ds, dvs, h1, h2, h3, h4⟩ := C
  exact je_call h1 hr tk hg h2 h3 h4 ha hdb he hpl
theorem jf_callC (C : Cal X.prog X.w X.K X.mg X.base c.cl k x ks fn dds) (hr : Room k X.A) (tk : Takes X c.W) (ha : JA c X (e :: es) fs) (hg : Gl X x := by rfl)
    (hdb : (x == ("__debug__" : Str)) = false := by decide) (he : starEach (e :: es) X.env = (false, eval e X.env) :: starEach es X.env := by rfl) (hpl : (backTo pos (starEach es X.env)).any (·.1) = false := by rfl) :
    JF c X (.Call (.Name x p) (e :: es) [] pos) (dCallO ks dds fn fs) := by
  obtain ⟨f, fd, ps, ds, dvs, h1, h2, h3, h4⟩ := C
  exact jf_call h1 hr tk hg h2 h3 h4 ha hdb he hpl
theorem je_callC0 (C : Cal X.prog X.w X.K X.mg X.base c.cl k x ks fn dds) (hr : Room k X.A) (tk : Takes X c.W) (hg : Gl X x := by rfl) (hdb : (x == ("__debug__" : Str)) = false := by decide) :
    JE c X (.Call (.Name x p) [] [] pos) (dCall ks dds fn dNil) := by
  obtain ⟨f, fd, ps, ds, dvs, h1, h2, h3, h4⟩ := C
  exact je_call0 h1 hr tk hg h2 h3 h4 hdb
theorem pe_tyn {T : Str} {T' : String} (hm : X.mg T = none) (hv : bootBuiltins T = some (.type T')) (hn : T ≠ "__name__" := by decide) (hg : Gl X T := by rfl) (hd : (T == ("__debug__" : Str)) = false := by decide) : PE X (.Name T p) (tC (.ty T')) := pe_bltn (v := .ty T') hg hm hv rfl hn hd
end
/-- the law's def over a head by facts; what leaves it may hang on the world -/
theorem walk_ofW {l : PySem.W.OpenLaw} {n k : Nat} {q : Program} {loose : List Str} {XP : (Str → Option Value) → Heap → Prop} {YP : World → Heap → Prop} {d : DefRec} {C' : World → CXT} {x : Str} (hn : l.most = some n) (hn2 : n ≤ sizeLine) (hdf : d.params.defaults = []) (hr : Room k callerA)
    (F : ∀ (w : World) (mg : Str → Option Value) (fa : Addr) (h : Heap), YP w h → h.Ns mainGlobals mg → mg d.name = some (.ref fa) → ∃ (K : PySem.W.Frag) (fd : FuncData) (sp : Sp), K.In h ∧ (∀ (s : Shared) (u : Value), BindsTo s fd ⟨[u], []⟩ [(x, u)]) ∧
        (∀ (H : Hp) (a : Addr) (ns : List Int), ns.length ≤ n → Only H → SqL K H a (ns.map V.int) → sp [.ref a] H (fun v _ => v = .bl true) fun _ _ _ => False) ∧ ∀ base : Heap, K.In base → base.Ns mainGlobals mg → FnOk l.prog w K mg base (C' w) k fa fd [x] sp)
    (hC : ∀ (w : World) (H : Hp) (s : Shared) (e : Value) (s' : Shared), C' w [] H s (fun _ _ _ => False) e s' → False) : PySem.W.WalkO q loose XP YP l.row.toRowW d [] (fun f vs => PySem.call f vs) := by
  refine Att.attach_call hn hdf fun w s₀ s₁ mg mb fa o pm cd doc a vs ns G Y ho hd hcd hmg hobj hints hlen hg => ?_
  obtain ⟨K, fd, sp, X1, hb, hsp, hF⟩ := F w mg fa _ Y G.T.g hmg
  exact law_call X1 G.T.g G.T.b G.T.builtins G.T.nolimit hg hobj hints (Nat.le_trans hlen hn2) hr hF hb (fun H hO hS => hsp H a ns hlen hO hS) fun H e s' => hC w H s₁ e s'
/-- the end by facts -/
theorem end_ofW {l : PySem.W.OpenLaw} {k : Nat} {q : Program} {loose : List Str} {XP : (Str → Option Value) → Heap → Prop} {YP : World → Heap → Prop} {d : DefRec} {x : Str} (hn : l.most = some 63) (hdf : d.params.defaults = []) (hr : Room k callerA)
    (F : ∀ (w : World) (mg : Str → Option Value) (fa : Addr) (h : Heap), YP w h → h.Ns mainGlobals mg → mg d.name = some (.ref fa) → ∃ (K : PySem.W.Frag) (fd : FuncData), K.In h ∧ (∀ (s : Shared) (u : Value), BindsTo s fd ⟨[u], []⟩ [(x, u)]) ∧
        ∀ base : Heap, K.In base → base.Ns mainGlobals mg → FnOk l.prog w K mg base (L2.CX l.prog w) k fa fd [x] (spTrue K)) : PySem.W.WalkO q loose XP YP l.row.toRowW d [] (fun f vs => PySem.call f vs) := by
  refine walk_ofW (x := x) (C' := fun w => L2.CX l.prog w) hn (by decide) hdf hr (fun w mg fa h Y G e => ?_) fun _ _ _ _ _ z => cx_none z
  obtain ⟨K, fd, h1, h2, h3⟩ := F w mg fa h Y G e
  exact ⟨K, fd, spTrue K, h1, h2, fun H a ns hl _ hS => ⟨a, ns, rfl, hS, hl, fun _ => rfl⟩, h3⟩
end DL

set_option maxRecDepth 100000
set_option maxHeartbeats 4000000
namespace DL
open PySem PySem.Spec PyProof.Rows L2
section
variable {c : Cf} {X : Cx} {x : Str} {p pos : Pos}
end
/-! ### written lists -/
def cexp : Expr → Option (V × D)
  | .Constant (.int i) _ _ => some (.int i, .int i)
  | .Constant (.bool i) _ _ => some (.bl i, .bl i)
  | .Constant .none _ _ => some (.non, .non)
  | .Constant (.str i) _ _ => some (.str i, .str i)
  | _ => none
def cexps : List Expr → Option (List (V × D))
  | [] => some []
  | e :: es => (cexp e).bind fun d => (cexps es).map fun ds => d :: ds
section
variable {c : Cf} {X : Cx} {pos : Pos}
theorem cexp_ok {e : Expr} {v : V} {d : D} (h : cexp e = some (v, d)) : PE X e (tC v) ∧ (∀ K cl G, Rep K cl G v d) ∧ ∀ (es : List Expr), starEach (e :: es) X.env = (false, eval e X.env) :: starEach es X.env := by
  cases e with
  | Constant k j p =>
    cases k with
    | int i => cases h; exact ⟨pe_int, fun _ _ _ => .int i, fun es => rfl⟩
    | bool i => cases h; exact ⟨pe_bl, fun _ _ _ => .bl i, fun es => rfl⟩
    | none => cases h; exact ⟨pe_non, fun _ _ _ => .non, fun es => rfl⟩
    | str i => cases h; exact ⟨pe_str, fun _ _ _ => .str i, fun es => rfl⟩
    | _ => cases h
  | _ => cases h
theorem ja_consts : ∀ {es : List Expr} {ds : List (V × D)}, cexps es = some ds → JA c X es (fun δ => .ok (ds.map fun p => .v p.2) δ)
  | [], ds, h => by cases h; exact ja_nil
  | e :: es, ds, h => by
    simp only [cexps, Option.bind_eq_some_iff, Option.map_eq_some_iff] at h
    obtain ⟨⟨v, d⟩, h1, ds', h2, rfl⟩ := h
    obtain ⟨q1, q2, q3⟩ := cexp_ok (X := X) h1
    exact ja_cons (je_c q1 fun G => q2 _ _ _) (ja_consts h2) (q3 es)
theorem avs_v : ∀ (ds : List D), avs (ds.map fun d => AV.v d) = some ds
  | [] => rfl
  | d :: ds => by show (avs (ds.map fun d => AV.v d)).map _ = _; rw [avs_v ds]; rfl
theorem jf_lstC {es : List Expr} {ds : List (V × D)} (h : cexps es = some ds) (hl : ds.length ≤ sizeLine := by decide) : JF c X (.List es pos) (dC (.lst (ds.map (·.2)))) := by
  have q : JF c X (.List es pos) (dLst (fun δ => .ok (ds.map fun p => .v p.2) δ)) := jf_lst (ja_consts h)
  have e : dLst (fun δ => .ok (ds.map fun p => .v p.2) δ) = dC (.lst (ds.map (·.2))) := by
    funext δ
    have z : (ds.map fun p => AV.v p.2) = (ds.map (·.2)).map fun d => AV.v d := by rw [List.map_map]; rfl
    simp only [dLst, dVals, EO.bind, z, avs_v, List.length_map, hl, if_true, dC]
  rw [← e]; exact q
end
theorem excC_of {K : PySem.W.Frag} {h : Heap} {mg : Str → Option Value} {P0 : Program} {w0 : World} (X : K.In h) (G : h.Ns mainGlobals mg) {x : Str} (g : (He.Fa.glo x).ok K = true) (e : (He.Fa.exc x).ok K = true) : ∃ C, ExcC K mg (⟨fun x => some (He.ga K x), P0, w0⟩ : Cw) x C := by
  obtain ⟨q1, q2, q3, q4⟩ := He.exc_ok e
  exact ⟨He.ga K x, He.glo_ok X G g, q1, q2, q3, q4, rfl⟩
end DL

set_option maxRecDepth 100000
set_option maxHeartbeats 4000000
/-! the plain functions, reckoned from within -/
namespace DL
open PySem PySem.Spec PyProof.Rows L2
def oE : Option D → DEnv → EO D
  | some z, δ => .ok z δ
  | none, _ => .st
def oB : Option Bool → DEnv → EO Bool
  | some z, δ => .ok z δ
  | none, _ => .st
def varK : Option Sl → Nat → DEnv → EO D
  | some (.val d), _, δ => .ok d δ
  | some (.own d), i, δ => .ok d (δ.set i (.val d))
  | _, _, _ => .st
def binK2 (g : D → D → Option D) (x : D) : EO D → EO D
  | .ok y δ => oE (g x y) δ
  | .ex c n d δ => .ex c n d δ
  | .st => .st
def binK (g : D → D → Option D) (fb : DE) : EO D → EO D
  | .ok x δ => binK2 g x (fb δ)
  | .ex c n d δ => .ex c n d δ
  | .st => .st
def unK (g : D → Option D) : EO D → EO D
  | .ok x δ => oE (g x) δ
  | .ex c n d δ => .ex c n d δ
  | .st => .st
def unB (g : D → Option Bool) : EO D → EO Bool
  | .ok x δ => oB (g x) δ
  | .ex c n d δ => .ex c n d δ
  | .st => .st
def asB : D → Option Bool
  | .bl b => some b
  | _ => none
def andK (fb : DE) (x : D) (δ : DEnv) : Option Bool → EO D
  | some true => fb δ
  | some false => .ok x δ
  | none => .st
def orK (fb : DE) (x : D) (δ : DEnv) : Option Bool → EO D
  | some true => .ok x δ
  | some false => fb δ
  | none => .st
def and1 (fb : DE) : EO D → EO D
  | .ok x δ => andK fb x δ (dTruth x)
  | .ex c n d δ => .ex c n d δ
  | .st => .st
def or1 (fb : DE) : EO D → EO D
  | .ok x δ => orK fb x δ (dTruth x)
  | .ex c n d δ => .ex c n d δ
  | .st => .st
def ifK {α : Type} (fa fb : DEnv → EO α) : EO Bool → EO α
  | .ok true δ => fa δ
  | .ok false δ => fb δ
  | .ex c n d δ => .ex c n d δ
  | .st => .st
def okB (b : Bool) : DT := fun δ => .ok b δ
def notK : EO Bool → EO Bool
  | .ok x δ => .ok (!x) δ
  | .ex c n d δ => .ex c n d δ
  | .st => .st
def consK2 (x : D) : EO (List AV) → EO (List AV)
  | .ok xs δ => .ok (.v x :: xs) δ
  | .ex c n d δ => .ex c n d δ
  | .st => .st
def consK (fr : DA) : EO D → EO (List AV)
  | .ok x δ => consK2 x (fr δ)
  | .ex c n d δ => .ex c n d δ
  | .st => .st
def refK (j : Nat) : EO (List AV) → EO (List AV)
  | .ok xs δ => .ok (.r j :: xs) δ
  | .ex c n d δ => .ex c n d δ
  | .st => .st
def refA1 (j : Nat) (fr : DA) (δ : DEnv) : Option Sl → EO (List AV)
  | some (.own _) => refK j (fr δ)
  | some (.rf _) => refK j (fr δ)
  | _ => .st
def valsK (g : List D → Option D) : EO (List AV) → EO D
  | .ok as δ => match avs as with
    | some ds => oE (g ds) δ
    | none => .st
  | .ex c n d δ => .ex c n d δ
  | .st => .st
def gTupD (ds : List D) : Option D := if ds.length ≤ sizeLine then some (.tup ds) else none
def gLstD (ds : List D) : Option D := if ds.length ≤ sizeLine then some (.lst ds) else none
def endK (js : List Nat) (δ : DEnv) : FO → EO D
  | .ret d rs => match putR δ js rs with | some δ2 => .ok d δ2 | none => .st
  | .new d rs => match putR δ js rs with | some δ2 => .ok d δ2 | none => .st
  | .ex c ns es rs => match putR δ js rs with | some δ2 => .ex c ns es δ2 | none => .st
  | .st => .st
def endO (js : List Nat) (δ : DEnv) : FO → EO D
  | .ret _ _ => .st
  | .new d rs => match putR δ js rs with | some δ2 => .ok d δ2 | none => .st
  | .ex c ns es rs => match putR δ js rs with | some δ2 => .ex c ns es δ2 | none => .st
  | .st => .st
def goK (e : List Nat → DEnv → FO → EO D) (dvs : List D) (fn : List D → FO) (as : List AV) (δ : DEnv) : Option (List D) → EO D
  | some ds => e (avj as) δ (fn (ds ++ dvs))
  | none => .st
def callK (e : List Nat → DEnv → FO → EO D) (ks : List Bool) (dvs : List D) (fn : List D → FO) : EO (List AV) → EO D
  | .ok as δ => if avk as ++ dvs.map (fun _ => false) = ks ∧ nodupB (avj as) = true then goK e dvs fn as δ (avd δ as) else .st
  | .ex c n d δ => .ex c n d δ
  | .st => .st
def itK1 (f : D → Option (List D)) : EO D → EO (List D)
  | .ok d δ => (match f d with | some ds => .ok ds δ | none => .st)
  | .ex c n d δ => .ex c n d δ
  | .st => .st
def rg1 : D → Option (List D)
  | .int j => if -(2 ^ 62) ≤ j ∧ j < 2 ^ 62 then some (rngD 0 j) else none
  | _ => none
def rgL : D → Option D
  | .int j => if 0 ≤ j ∧ j ≤ 16777216 then some (.lst (rngD 0 j)) else none
  | _ => none
def zpK2 (x : D) : EO D → EO (List D)
  | .ok y δ => (match seqD x, seqD y with | some ds, some es => .ok (zipD ds es) δ | _, _ => .st)
  | .ex c n d δ => .ex c n d δ
  | .st => .st
def zpK (fb : DE) : EO D → EO (List D)
  | .ok x δ => zpK2 x (fb δ)
  | .ex c n d δ => .ex c n d δ
  | .st => .st
def compK (A : D → DEnv → Option DEnv) (t : DT) (el : DE) (vs : List Nat) : EO (List D) → EO D
  | .ok ds δ => compL A t el vs ds δ []
  | .ex c n d δ => .ex c n d δ
  | .st => .st
def sK (k : D → DEnv → SO) : EO D → SO
  | .ok d δ => k d δ
  | .ex c n d δ => .ex c n d δ
  | .st => .st
def ifS (f g : DS) : EO Bool → SO
  | .ok true δ => f δ
  | .ok false δ => g δ
  | .ex c n d δ => .ex c n d δ
  | .st => .st
def forK (A : D → DEnv → Option DEnv) (f : DS) : EO (List D) → SO
  | .ok ds δ => forL A f ds δ
  | .ex c n d δ => .ex c n d δ
  | .st => .st
def kNx (_ : D) (δ : DEnv) : SO := .nx δ
def kRt (d : D) (δ : DEnv) : SO := .rt d δ
def kRo (d : D) (δ : DEnv) : SO := .ro d δ
def kSet (i : Nat) (d : D) (δ : DEnv) : SO := oNx (setV i d δ)
def kSetO (i : Nat) (d : D) (δ : DEnv) : SO := oNx (setO i d δ)
def kUnp (A : D → DEnv → Option DEnv) (d : D) (δ : DEnv) : SO := oNx (A d δ)
def kAug (i : Nat) (g : D → D → Option D) (x y : D) (δ : DEnv) : SO := match g x y with
  | some z => oNx (setV i z δ)
  | none => .st
def setVK (i : Nat) (d : D) (δ : DEnv) : Option Sl → Option DEnv
  | some (.rf _) => none
  | some _ => some (δ.set i (.val d))
  | none => none
def setOK (i : Nat) (d : D) (δ : DEnv) : Option Sl → Option DEnv
  | some (.rf _) => none
  | some _ => some (δ.set i (.own d))
  | none => none
def lkK : Option Sl → Option D
  | some (.val d) => some d
  | some (.own d) => some d
  | some (.rf d) => some d
  | _ => none
def ix3 (y : D) (δ : DEnv) : Option D → EO D
  | some d => oE (idxD d y) δ
  | none => .st
def ixK2 (j : Nat) : EO D → EO D
  | .ok y δ => ix3 y δ (look δ j)
  | .ex c n d δ => .ex c n d δ
  | .st => .st
def ixK (j : Nat) (fb : DE) (δ : DEnv) : Option D → EO D
  | some _ => ixK2 j (fb δ)
  | none => .st
section
variable (f g : DS) (δ : DEnv) (t u : DT) (fa fb : DE) (G : D → D → Option D) (U : D → Option D) (fs : DA) (i j : Nat)
theorem a_seq : sSeq f g δ = (f δ).then g := rfl
theorem a_expr : sExpr fa δ = sK kNx (fa δ) := by unfold sExpr; cases fa δ <;> rfl
theorem a_ret : sRet fa δ = sK kRt (fa δ) := by unfold sRet; cases fa δ <;> rfl
theorem a_retO : sRetO fa δ = sK kRo (fa δ) := by unfold sRetO; cases fa δ <;> rfl
theorem a_set : sSet i fa δ = sK (kSet i) (fa δ) := by unfold sSet; cases fa δ <;> rfl
theorem a_setO : sSetO i fa δ = sK (kSetO i) (fa δ) := by unfold sSetO; cases fa δ <;> rfl
theorem a_if : sIf t f g δ = ifS f g (t δ) := by
  unfold sIf
  cases t δ with
  | ok b δ => cases b <;> rfl
  | ex c n d δ => rfl
  | st => rfl
theorem a_unp (A : D → DEnv → Option DEnv) : sUnp A fa δ = sK (kUnp A) (fa δ) := by unfold sUnp; cases fa δ <;> rfl
theorem a_for (it : DI) (A : D → DEnv → Option DEnv) : sFor it A f δ = forK A f (it δ) := by unfold sFor; cases it δ <;> rfl
theorem a_nil : sNil δ = .nx δ := rfl
theorem a_retN : sRetN δ = .rt .non δ := rfl
theorem a_then_0 (f : DS) (δ : DEnv) : (SO.nx δ).then f = f δ := rfl
theorem a_then_1 (f : DS) (δ : DEnv) (d : D) : (SO.rt d δ).then f = .rt d δ := rfl
theorem a_then_2 (f : DS) (δ : DEnv) (d : D) : (SO.ro d δ).then f = .ro d δ := rfl
theorem a_then_3 (f : DS) (δ : DEnv) (c : Str) (n : List Str) (ds : List D) : (SO.ex c n ds δ).then f = .ex c n ds δ := rfl
theorem a_sK_0 (δ : DEnv) (k : D → DEnv → SO) (d : D) : sK k (.ok d δ) = k d δ := rfl
theorem a_sK_1 (δ : DEnv) (k : D → DEnv → SO) (c : Str) (n : List Str) (ds : List D) : sK k (.ex c n ds δ) = .ex c n ds δ := rfl
theorem a_ifS_0 (f : DS) (g : DS) (δ : DEnv) : ifS f g (.ok true δ) = f δ := rfl
theorem a_ifS_1 (f : DS) (g : DS) (δ : DEnv) : ifS f g (.ok false δ) = g δ := rfl
theorem a_ifS_2 (f : DS) (g : DS) (δ : DEnv) (c : Str) (n : List Str) (ds : List D) : ifS f g (.ex c n ds δ) = .ex c n ds δ := rfl
theorem a_k_0 (δ : DEnv) (d : D) : kNx d δ = .nx δ := rfl
theorem a_k_1 (δ : DEnv) (d : D) : kRt d δ = .rt d δ := rfl
theorem a_k_2 (δ : DEnv) (d : D) : kRo d δ = .ro d δ := rfl
theorem a_k_3 (δ : DEnv) (i : Nat) (d : D) : kSet i d δ = oNx (setV i d δ) := rfl
theorem a_k_4 (δ : DEnv) (i : Nat) (d : D) : kSetO i d δ = oNx (setO i d δ) := rfl
theorem a_k_5 (δ : DEnv) (d : D) (A : D → DEnv → Option DEnv) : kUnp A d δ = oNx (A d δ) := rfl
theorem a_k_6 (δ : DEnv) : oNx (some δ) = .nx δ := rfl
theorem a_setV (d : D) : setV i d δ = setVK i d δ δ[i]? := by
  unfold setV setVK
  cases δ[i]? with
  | none => rfl
  | some s => cases s <;> rfl
theorem a_setOd (d : D) : setO i d δ = setOK i d δ δ[i]? := by
  unfold setO setOK
  cases δ[i]? with
  | none => rfl
  | some s => cases s <;> rfl
theorem a_setVK_0 (δ : DEnv) (i : Nat) (d : D) : setVK i d δ (some .un) = some (δ.set i (.val d)) := rfl
theorem a_setVK_1 (δ : DEnv) (i : Nat) (d : D) (e : D) : setVK i d δ (some (.val e)) = some (δ.set i (.val d)) := rfl
theorem a_setVK_2 (δ : DEnv) (i : Nat) (d : D) (e : D) : setVK i d δ (some (.own e)) = some (δ.set i (.val d)) := rfl
theorem a_setVK_3 (δ : DEnv) (i : Nat) (d : D) : setOK i d δ (some .un) = some (δ.set i (.own d)) := rfl
theorem a_setVK_4 (δ : DEnv) (i : Nat) (d : D) (e : D) : setOK i d δ (some (.val e)) = some (δ.set i (.own d)) := rfl
theorem a_setVK_5 (δ : DEnv) (i : Nat) (d : D) (e : D) : setOK i d δ (some (.own e)) = some (δ.set i (.own d)) := rfl
theorem a_c (d : D) : dC d δ = .ok d δ := rfl
theorem a_var : dVar i δ = varK δ[i]? i δ := by
  unfold dVar varK
  cases δ[i]? with
  | none => rfl
  | some s => cases s <;> rfl
theorem a_varK_0 (δ : DEnv) (i : Nat) (d : D) : varK (some (.val d)) i δ = .ok d δ := rfl
theorem a_varK_1 (δ : DEnv) (i : Nat) (d : D) : varK (some (.own d)) i δ = .ok d (δ.set i (.val d)) := rfl
theorem a_bin : dBin G fa fb δ = binK G fb (fa δ) := by
  unfold dBin
  cases fa δ with
  | ok x δ1 =>
    show (fb δ1).bind _ = binK2 G x (fb δ1)
    cases fb δ1 with
    | ok y δ2 => show (match G x y with | some z => EO.ok z δ2 | none => .st) = oE (G x y) δ2; cases G x y <;> rfl
    | ex c n d δ => rfl
    | st => rfl
  | ex c n d δ => rfl
  | st => rfl
theorem a_binK_0 (δ : DEnv) (fb : DE) (G : D → D → Option D) (x : D) : binK G fb (.ok x δ) = binK2 G x (fb δ) := rfl
theorem a_binK_1 (δ : DEnv) (G : D → D → Option D) (x : D) (y : D) : binK2 G x (.ok y δ) = oE (G x y) δ := rfl
theorem a_binK_2 (δ : DEnv) (fb : DE) (G : D → D → Option D) (c : Str) (n : List Str) (ds : List D) : binK G fb (.ex c n ds δ) = .ex c n ds δ := rfl
theorem a_binK_3 (δ : DEnv) (G : D → D → Option D) (x : D) (c : Str) (n : List Str) (ds : List D) : binK2 G x (.ex c n ds δ) = .ex c n ds δ := rfl
theorem a_oE_0 (δ : DEnv) (x : D) : oE (some x) δ = .ok x δ := rfl
theorem a_oE_1 (δ : DEnv) (b : Bool) : oB (some b) δ = .ok b δ := rfl
theorem a_un : dUn U fa δ = unK U (fa δ) := by
  unfold dUn
  cases fa δ with
  | ok x δ1 => show (match U x with | some z => EO.ok z δ1 | none => .st) = oE (U x) δ1; cases U x <;> rfl
  | ex c n d δ => rfl
  | st => rfl
theorem a_unK_0 (δ : DEnv) (U : D → Option D) (x : D) : unK U (.ok x δ) = oE (U x) δ := rfl
theorem a_unK_1 (δ : DEnv) (x : D) (B : D → Option Bool) : unB B (.ok x δ) = oB (B x) δ := rfl
theorem a_unK_2 (δ : DEnv) (U : D → Option D) (c : Str) (n : List Str) (ds : List D) : unK U (.ex c n ds δ) = .ex c n ds δ := rfl
theorem a_unK_3 (δ : DEnv) (B : D → Option Bool) (c : Str) (n : List Str) (ds : List D) : unB B (.ex c n ds δ) = .ex c n ds δ := rfl
theorem a_test : dTest fa δ = unB asB (fa δ) := by
  unfold dTest
  cases fa δ with
  | ok x δ1 => cases x <;> rfl
  | ex c n d δ => rfl
  | st => rfl
theorem a_tru : dTru fa δ = unB dTruth (fa δ) := by
  unfold dTru
  cases fa δ with
  | ok x δ1 => show (match dTruth x with | some b => EO.ok b δ1 | none => .st) = oB (dTruth x) δ1; cases dTruth x <;> rfl
  | ex c n d δ => rfl
  | st => rfl
theorem a_not : dNot fa δ = unK (fun x => (dTruth x).map fun b => .bl (!b)) (fa δ) := by
  unfold dNot
  cases fa δ with
  | ok x δ1 => show (match dTruth x with | some b => EO.ok (D.bl (!b)) δ1 | none => .st) = oE ((dTruth x).map fun b => .bl (!b)) δ1; cases dTruth x <;> rfl
  | ex c n d δ => rfl
  | st => rfl
theorem a_asB_0 (b : Bool) : asB (.bl b) = some b := rfl
theorem a_asB_1 (b : Bool) : dTruth (.bl b) = some b := rfl
theorem a_asB_2  : dTruth .non = some false := rfl
theorem a_asB_3 (k : Int) : dTruth (.int k) = some (k != 0) := rfl
theorem a_lst_0 (xs : List D) : dTruth (.lst xs) = some (!xs.isEmpty) := rfl
theorem a_lst_1 (xs : List D) : dTruth (.tup xs) = some (!xs.isEmpty) := rfl
theorem a_and : dAnd fa fb δ = and1 fb (fa δ) := by
  unfold dAnd
  cases fa δ with
  | ok x δ1 => show (match dTruth x with | some true => fb δ1 | some false => EO.ok x δ1 | none => .st) = andK fb x δ1 (dTruth x); cases dTruth x with
    | none => rfl
    | some b => cases b <;> rfl
  | ex c n d δ => rfl
  | st => rfl
theorem a_or : dOr fa fb δ = or1 fb (fa δ) := by
  unfold dOr
  cases fa δ with
  | ok x δ1 => show (match dTruth x with | some true => EO.ok x δ1 | some false => fb δ1 | none => .st) = orK fb x δ1 (dTruth x); cases dTruth x with
    | none => rfl
    | some b => cases b <;> rfl
  | ex c n d δ => rfl
  | st => rfl
theorem a_andK_0 (δ : DEnv) (fb : DE) (x : D) : and1 fb (.ok x δ) = andK fb x δ (dTruth x) := rfl
theorem a_andK_1 (δ : DEnv) (fb : DE) (x : D) : or1 fb (.ok x δ) = orK fb x δ (dTruth x) := rfl
theorem a_andK_2 (δ : DEnv) (fb : DE) (x : D) : andK fb x δ (some true) = fb δ := rfl
theorem a_andK_3 (δ : DEnv) (fb : DE) (x : D) : andK fb x δ (some false) = .ok x δ := rfl
theorem a_andK_4 (δ : DEnv) (fb : DE) (x : D) : orK fb x δ (some true) = .ok x δ := rfl
theorem a_andK_5 (δ : DEnv) (fb : DE) (x : D) : orK fb x δ (some false) = fb δ := rfl
theorem a_dIf : dIf t fa fb δ = ifK fa fb (t δ) := by
  unfold dIf
  cases t δ with
  | ok b δ => cases b <;> rfl
  | ex c n d δ => rfl
  | st => rfl
theorem a_tand : tAndD t u δ = ifK u (okB false) (t δ) := by
  unfold tAndD
  cases t δ with
  | ok b δ => cases b <;> rfl
  | ex c n d δ => rfl
  | st => rfl
theorem a_tor : tOrD t u δ = ifK (okB true) u (t δ) := by
  unfold tOrD
  cases t δ with
  | ok b δ => cases b <;> rfl
  | ex c n d δ => rfl
  | st => rfl
theorem a_tnot : tNotD t δ = notK (t δ) := by unfold tNotD; cases t δ <;> rfl
theorem a_ifK_0 {α : Type} (δ : DEnv) (p : DEnv → EO α) (q : DEnv → EO α) : ifK p q (.ok true δ) = p δ := rfl
theorem a_ifK_1 {α : Type} (δ : DEnv) (p : DEnv → EO α) (q : DEnv → EO α) : ifK p q (.ok false δ) = q δ := rfl
theorem a_ifK_2 (δ : DEnv) (b : Bool) : okB b δ = .ok b δ := rfl
theorem a_ifK_3 (δ : DEnv) (b : Bool) : notK (.ok b δ) = .ok (!b) δ := rfl
theorem a_ifK_4 (δ : DEnv) : dYes δ = .ok true δ := rfl
theorem a_cons : dCons fa fs δ = consK fs (fa δ) := by
  unfold dCons
  cases fa δ with
  | ok x δ1 => show (fs δ1).bind _ = consK2 x (fs δ1); cases fs δ1 <;> rfl
  | ex c n d δ => rfl
  | st => rfl
theorem a_consK_0 (δ : DEnv) : dNil δ = .ok [] δ := rfl
theorem a_consK_1 (δ : DEnv) (fs : DA) (x : D) : consK fs (.ok x δ) = consK2 x (fs δ) := rfl
theorem a_consK_2 (δ : DEnv) (x : D) (as : List AV) : consK2 x (.ok as δ) = .ok (.v x :: as) δ := rfl
theorem a_consK_3 (δ : DEnv) (fs : DA) (c : Str) (n : List Str) (ds : List D) : consK fs (.ex c n ds δ) = .ex c n ds δ := rfl
theorem a_consK_4 (δ : DEnv) (x : D) (c : Str) (n : List Str) (ds : List D) : consK2 x (.ex c n ds δ) = .ex c n ds δ := rfl
theorem a_refA : dRefA j fs δ = refA1 j fs δ δ[j]? := by
  unfold dRefA refA1
  cases δ[j]? with
  | none => rfl
  | some s =>
    cases s <;> first | rfl | (show (fs δ).bind _ = refK j (fs δ); cases fs δ <;> rfl)
theorem a_refK_0 (δ : DEnv) (fs : DA) (j : Nat) (d : D) : refA1 j fs δ (some (.own d)) = refK j (fs δ) := rfl
theorem a_refK_1 (δ : DEnv) (fs : DA) (j : Nat) (d : D) : refA1 j fs δ (some (.rf d)) = refK j (fs δ) := rfl
theorem a_refK_2 (δ : DEnv) (j : Nat) (as : List AV) : refK j (.ok as δ) = .ok (.r j :: as) δ := rfl
theorem vals_eq (g : List D → Option D) : dVals fs (fun ds δ => match g ds with | some z => .ok z δ | none => .st) δ = valsK g (fs δ) := by
  unfold dVals
  cases fs δ with
  | ok as δ1 =>
    show (match avs as with | some ds => _ | none => _) = (match avs as with | some ds => oE (g ds) δ1 | none => .st)
    cases avs as with
    | none => rfl
    | some ds => show (match g ds with | some z => EO.ok z δ1 | none => .st) = oE (g ds) δ1; cases g ds <;> rfl
  | ex c n d δ => rfl
  | st => rfl
theorem a_cb (g : List D → Option D) : dCallB g fs δ = valsK g (fs δ) := vals_eq δ fs g
theorem a_tup : dTup fs δ = valsK gTupD (fs δ) := by
  rw [← vals_eq]; unfold dTup
  congr 1
  funext ds δ
  unfold gTupD
  by_cases h : ds.length ≤ sizeLine
  · rw [if_pos h, if_pos h]
  · rw [if_neg h, if_neg h]
theorem a_dLst : dLst fs δ = valsK gLstD (fs δ) := by
  rw [← vals_eq]; unfold dLst
  congr 1
  funext ds δ
  unfold gLstD
  by_cases h : ds.length ≤ sizeLine
  · rw [if_pos h, if_pos h]
  · rw [if_neg h, if_neg h]
theorem a_vals0 (g : List D → Option D) : valsK g (.ok [] δ) = oE (g []) δ := rfl
theorem a_vals1 (g : List D → Option D) (a : D) : valsK g (.ok [.v a] δ) = oE (g [a]) δ := rfl
theorem a_vals2 (g : List D → Option D) (a b : D) : valsK g (.ok [.v a, .v b] δ) = oE (g [a, b]) δ := rfl
theorem a_vals3 (g : List D → Option D) (a b c : D) : valsK g (.ok [.v a, .v b, .v c] δ) = oE (g [a, b, c]) δ := rfl
theorem a_vals4 (g : List D → Option D) (a b c d : D) : valsK g (.ok [.v a, .v b, .v c, .v d] δ) = oE (g [a, b, c, d]) δ := rfl
theorem call_eq (ks : List Bool) (dvs : List D) (fn : List D → FO) : dCall ks dvs fn fs δ = callK endK ks dvs fn (fs δ) := by
  unfold dCall
  cases fs δ with
  | ok as δ1 =>
    show (if _ then _ else _) = (if _ then _ else _)
    by_cases h : avk as ++ dvs.map (fun _ => false) = ks ∧ nodupB (avj as) = true
    · rw [if_pos h, if_pos h]
      cases avd δ1 as with
      | none => rfl
      | some ds => show (match fn (ds ++ dvs) with | .ret d rs => _ | .new d rs => _ | .ex c ns es rs => _ | .st => _) = endK (avj as) δ1 (fn (ds ++ dvs)); cases fn (ds ++ dvs) <;> rfl
    · rw [if_neg h, if_neg h]
  | ex c n d δ => rfl
  | st => rfl
theorem callO_eq (ks : List Bool) (dvs : List D) (fn : List D → FO) : dCallO ks dvs fn fs δ = callK endO ks dvs fn (fs δ) := by
  unfold dCallO
  cases fs δ with
  | ok as δ1 =>
    show (if _ then _ else _) = (if _ then _ else _)
    by_cases h : avk as ++ dvs.map (fun _ => false) = ks ∧ nodupB (avj as) = true
    · rw [if_pos h, if_pos h]
      cases avd δ1 as with
      | none => rfl
      | some ds => show (match fn (ds ++ dvs) with | .ret d rs => _ | .new d rs => _ | .ex c ns es rs => _ | .st => _) = endO (avj as) δ1 (fn (ds ++ dvs)); cases fn (ds ++ dvs) <;> rfl
    · rw [if_neg h, if_neg h]
  | ex c n d δ => rfl
  | st => rfl
section
variable (e : List Nat → DEnv → FO → EO D) (dvs : List D) (fn : List D → FO) (a b c d : D)
theorem a_call1 : callK e [false] [] fn (.ok [.v a] δ) = e [] δ (fn [a]) := rfl
theorem a_call2 : callK e [false, false] [] fn (.ok [.v a, .v b] δ) = e [] δ (fn [a, b]) := rfl
theorem a_call3 : callK e [false, false, false] [] fn (.ok [.v a, .v b, .v c] δ) = e [] δ (fn [a, b, c]) := rfl
theorem a_call4 : callK e [false, false, false, false] [] fn (.ok [.v a, .v b, .v c, .v d] δ) = e [] δ (fn [a, b, c, d]) := rfl
def rfK (e : List Nat → DEnv → FO → EO D) (fn : List D → FO) (j : Nat) (r : List D) (δ : DEnv) : Option D → EO D
  | some x => e [j] δ (fn (x :: r))
  | none => .st
theorem rf_eq (as : List AV) (ks : List Bool) (r : List D) (h : avk as = ks) (h2 : avd δ as = some r) (h3 : avj as = []) : callK e (true :: ks) [] fn (.ok (.r j :: as) δ) = rfK e fn j r δ (δ[j]?.bind Sl.cont) := by
  show (if (true :: avk as) ++ [] = true :: ks ∧ nodupB (j :: avj as) = true then goK e [] fn (.r j :: as) δ (avd δ (.r j :: as)) else .st) = _
  rw [h3, h, List.append_nil, if_pos ⟨rfl, rfl⟩]
  show goK e [] fn (.r j :: as) δ ((avd δ as).bind fun ds => (δ[j]?.bind Sl.cont).map fun d => d :: ds) = _
  rw [h2]
  show goK e [] fn (.r j :: as) δ ((δ[j]?.bind Sl.cont).map fun d => d :: r) = _
  cases δ[j]?.bind Sl.cont with
  | none => rfl
  | some x =>
    show e (j :: avj as) δ (fn (x :: r ++ [])) = e [j] δ (fn (x :: r))
    rw [h3, List.append_nil]
theorem a_rf0 : callK e [true] [] fn (.ok [.r j] δ) = rfK e fn j [] δ (δ[j]?.bind Sl.cont) := rf_eq δ j e fn [] [] [] rfl rfl rfl
theorem a_rf1 : callK e [true, false] [] fn (.ok [.r j, .v a] δ) = rfK e fn j [a] δ (δ[j]?.bind Sl.cont) := rf_eq δ j e fn [.v a] [false] [a] rfl rfl rfl
theorem a_rf2 : callK e [true, false, false] [] fn (.ok [.r j, .v a, .v b] δ) = rfK e fn j [a, b] δ (δ[j]?.bind Sl.cont) := rf_eq δ j e fn [.v a, .v b] [false, false] [a, b] rfl rfl rfl
theorem a_rfK_0 (δ : DEnv) (j : Nat) (x : D) (r : List D) (e : List Nat → DEnv → FO → EO D) (fn : List D → FO) : rfK e fn j r δ (some x) = e [j] δ (fn (x :: r)) := rfl
theorem a_rfK_1 (x : D) : (Option.bind (some (Sl.own x)) Sl.cont) = some x := rfl
theorem a_rfK_2 (x : D) : (Option.bind (some (Sl.rf x)) Sl.cont) = some x := rfl
end
def put1 (j : Nat) (d y : D) (δ : DEnv) : Option Sl → EO D
  | some (.own _) => .ok d (δ.set j (.own y))
  | some (.rf _) => .ok d (δ.set j (.rf y))
  | some s => .ok d (δ.set j s)
  | none => .st
theorem a_end0_0 (δ : DEnv) (d : D) : endK [] δ (.ret d []) = .ok d δ := rfl
theorem a_end0_1 (δ : DEnv) (d : D) : endK [] δ (.new d []) = .ok d δ := rfl
theorem a_end0_2 (δ : DEnv) (d : D) : endO [] δ (.new d []) = .ok d δ := rfl
theorem a_end0_3 (δ : DEnv) (c : Str) (n : List Str) (ds : List D) : endK [] δ (.ex c n ds []) = .ex c n ds δ := rfl
theorem a_end1 (d y : D) : endK [j] δ (.ret d [y]) = put1 j d y δ δ[j]? := by
  show (match (match δ[j]? with | some s => some (δ.set j (s.put y)) | none => none) with | some δ2 => EO.ok d δ2 | none => .st) = put1 j d y δ δ[j]?
  unfold put1
  cases δ[j]? with
  | none => rfl
  | some s => cases s <;> rfl
theorem a_put1_0 (δ : DEnv) (j : Nat) (d : D) (x : D) (y : D) : put1 j d y δ (some (.own x)) = .ok d (δ.set j (.own y)) := rfl
theorem a_put1_1 (δ : DEnv) (j : Nat) (d : D) (x : D) (y : D) : put1 j d y δ (some (.rf x)) = .ok d (δ.set j (.rf y)) := rfl
theorem a_look : look δ j = lkK δ[j]? := by
  unfold look lkK
  cases δ[j]? with
  | none => rfl
  | some s => cases s <;> rfl
theorem a_lkK_0 (d : D) : lkK (some (.val d)) = some d := rfl
theorem a_lkK_1 (d : D) : lkK (some (.own d)) = some d := rfl
theorem a_lkK_2 (d : D) : lkK (some (.rf d)) = some d := rfl
theorem a_ixV : dIxV j fb δ = ixK j fb δ (look δ j) := by
  unfold dIxV ixK
  cases look δ j with
  | none => rfl
  | some d =>
    show (fb δ).bind _ = ixK2 j (fb δ)
    cases fb δ with
    | ok y δ1 =>
      show (match (look δ1 j).bind fun d => idxD d y with | some z => EO.ok z δ1 | none => .st) = ix3 y δ1 (look δ1 j)
      cases look δ1 j with
      | none => rfl
      | some d => show (match idxD d y with | some z => EO.ok z δ1 | none => .st) = oE (idxD d y) δ1; cases idxD d y <;> rfl
    | ex c n d δ => rfl
    | st => rfl
theorem a_ixK_0 (δ : DEnv) (fb : DE) (j : Nat) (d : D) : ixK j fb δ (some d) = ixK2 j (fb δ) := rfl
theorem a_ixK_1 (δ : DEnv) (j : Nat) (y : D) : ixK2 j (.ok y δ) = ix3 y δ (look δ j) := rfl
theorem a_ixK_2 (δ : DEnv) (d : D) (y : D) : ix3 y δ (some d) = oE (idxD d y) δ := rfl
theorem a_lenV : dLenV j δ = oE ((look δ j).bind fun d => (lenD d).map fun n => D.int (n : Nat)) δ := by
  unfold dLenV
  cases look δ j with
  | none => rfl
  | some d => show (match lenD d with | some n => EO.ok (D.int (n : Nat)) δ | none => .st) = oE ((lenD d).map fun n => D.int (n : Nat)) δ; cases lenD d <;> rfl
theorem a_truV : dTruV j δ = oB ((look δ j).bind dTruth) δ := by
  unfold dTruV
  cases (look δ j).bind dTruth <;> rfl
theorem a_len_0 (ds : List D) : lenD (.lst ds) = some ds.length := rfl
theorem a_len_1 (ds : List D) : lenD (.tup ds) = some ds.length := rfl
theorem a_len_2 (ns : List Int) : lenD (.scr ns) = some ns.length := rfl
theorem a_len_3 (ds : List D) : gLen [.lst ds] = some (.int (ds.length : Nat)) := rfl
theorem a_len_4 (ds : List D) : gLen [.tup ds] = some (.int (ds.length : Nat)) := rfl
theorem a_it : dIt fa δ = itK1 dItems (fa δ) := by unfold dIt; cases fa δ <;> rfl
theorem a_rg1 : dRg1 fa δ = itK1 rg1 (fa δ) := by
  unfold dRg1
  cases fa δ with
  | ok x δ1 =>
    cases x with
    | int j =>
      show (if -(2 ^ 62) ≤ j ∧ j < 2 ^ 62 then EO.ok (rngD 0 j) δ1 else .st) = (match (if -(2 ^ 62) ≤ j ∧ j < 2 ^ 62 then some (rngD 0 j) else none) with | some ds => .ok ds δ1 | none => .st)
      by_cases h : -(2 ^ 62) ≤ j ∧ j < 2 ^ 62
      · rw [if_pos h, if_pos h]
      · rw [if_neg h, if_neg h]
    | _ => rfl
  | ex c n d δ => rfl
  | st => rfl
theorem a_rgL : dRgL fa δ = unK rgL (fa δ) := by
  unfold dRgL
  cases fa δ with
  | ok x δ1 =>
    cases x with
    | int j =>
      show (if 0 ≤ j ∧ j ≤ 16777216 then EO.ok (.lst (rngD 0 j)) δ1 else .st) = oE (if 0 ≤ j ∧ j ≤ 16777216 then some (.lst (rngD 0 j)) else none) δ1
      by_cases h : 0 ≤ j ∧ j ≤ 16777216
      · rw [if_pos h, if_pos h]; rfl
      · rw [if_neg h, if_neg h]; rfl
    | _ => rfl
  | ex c n d δ => rfl
  | st => rfl
theorem a_en : dEn fa δ = itK1 (fun d => (seqD d).map (enumD 0)) (fa δ) := by
  unfold dEn
  cases fa δ with
  | ok x δ1 => show (match seqD x with | some ds => EO.ok (enumD 0 ds) δ1 | none => .st) = (match (seqD x).map (enumD 0) with | some ds => .ok ds δ1 | none => .st); cases seqD x <;> rfl
  | ex c n d δ => rfl
  | st => rfl
theorem a_zp : dZp fa fb δ = zpK fb (fa δ) := by
  unfold dZp
  cases fa δ with
  | ok x δ1 =>
    show (fb δ1).bind _ = zpK2 x (fb δ1)
    cases fb δ1 <;> rfl
  | ex c n d δ => rfl
  | st => rfl
theorem a_itK_0 (δ : DEnv) (ds : List D) : itK1 dItems (.ok (.lst ds) δ) = .ok ds δ := rfl
theorem a_itK_1 (δ : DEnv) (ds : List D) : itK1 dItems (.ok (.tup ds) δ) = .ok ds δ := rfl
theorem a_itK_2 (δ : DEnv) (ns : List Int) : itK1 dItems (.ok (.scr ns) δ) = .ok (ns.map D.int) δ := rfl
theorem a_itE_0 (δ : DEnv) (ds : List D) : itK1 (fun d => (seqD d).map (enumD 0)) (.ok (.lst ds) δ) = .ok (enumD 0 ds) δ := rfl
theorem a_itE_1 (δ : DEnv) (ds : List D) : itK1 (fun d => (seqD d).map (enumD 0)) (.ok (.tup ds) δ) = .ok (enumD 0 ds) δ := rfl
theorem a_itR (n : Int) (h : -(2 ^ 62) ≤ n ∧ n < 2 ^ 62) : itK1 rg1 (.ok (.int n) δ) = .ok (rngD 0 n) δ := by
  show (match (if -(2 ^ 62) ≤ n ∧ n < 2 ^ 62 then some (rngD 0 n) else none) with | some ds => EO.ok ds δ | none => .st) = _
  rw [if_pos h]
theorem a_comp (it : DI) (A : D → DEnv → Option DEnv) (vs : List Nat) : dComp it A t fa vs δ = compK A t fa vs (it δ) := by unfold dComp; cases it δ <;> rfl
theorem a_compK_0 (δ : DEnv) (t : DT) (fa : DE) (A : D → DEnv → Option DEnv) (vs : List Nat) (ds : List D) : compK A t fa vs (.ok ds δ) = compL A t fa vs ds δ [] := rfl
theorem a_compK_1 (f : DS) (δ : DEnv) (A : D → DEnv → Option DEnv) (ds : List D) : forK A f (.ok ds δ) = forL A f ds δ := rfl
theorem a_isi (Ts : List String) : dIsi Ts fa δ = unK (fun d => (tyD d).map fun t => .bl (Ts.any (subT t))) (fa δ) := by
  unfold dIsi
  cases fa δ with
  | ok x δ1 => show (match tyD x with | some t => EO.ok (.bl (Ts.any (subT t))) δ1 | none => .st) = oE ((tyD x).map fun t => .bl (Ts.any (subT t))) δ1; cases tyD x <;> rfl
  | ex c n d δ => rfl
  | st => rfl
theorem a_gI_0 (C : Int → Int → Bool) (h : Int → Int → Int) (k : Int) (l : Int) : gI C h (.int k) (.int l) = (if C k l = true then some (.int (h k l)) else none) := rfl
theorem a_gI_1 (k : Int) (l : Int) (p : Int → Int → Bool) : gB p (.int k) (.int l) = some (.bl (p k l)) := rfl
theorem a_gI_2 (k : Int) (l : Int) : gAdd (.int k) (.int l) = some (.int (k + l)) := rfl
end
end DL

set_option maxRecDepth 100000
set_option maxHeartbeats 4000000
/-! loops, stores and comprehensions, reckoned from within -/
namespace DL
open PySem PySem.Spec PyProof.Rows L2
/-! ### for -/
def fl2 (A : D → DEnv → Option DEnv) (f : DS) (ds : List D) : SO → SO
  | .nx δ2 => forL A f ds δ2
  | .ct δ2 => forL A f ds δ2
  | .bk δ2 => .nx δ2
  | .rt x δ2 => .rt x δ2
  | .ro x δ2 => .ro x δ2
  | .ex c n es δ2 => .ex c n es δ2
  | .st => .st
def fl1 (A : D → DEnv → Option DEnv) (f : DS) (ds : List D) : Option DEnv → SO
  | some δ1 => fl2 A f ds (f δ1)
  | none => .st
section
variable (A : D → DEnv → Option DEnv) (f : DS) (d x : D) (ds es : List D) (δ : DEnv) (c : Str) (n : List Str)
theorem f_nil : forL A f [] δ = .nx δ := rfl
theorem f_cons : forL A f (d :: ds) δ = fl1 A f ds (A d δ) := by
  show (match A d δ with | none => SO.st | some δ1 => _) = _
  cases A d δ with
  | none => rfl
  | some δ1 => show (match f δ1 with | .nx δ2 => _ | .ct δ2 => _ | .bk δ2 => _ | .rt x δ2 => _ | .ro x δ2 => _ | .ex c n es δ2 => _ | .st => _) = fl2 A f ds (f δ1); cases f δ1 <;> rfl
theorem f_some : fl1 A f ds (some δ) = fl2 A f ds (f δ) := rfl
theorem f_nx : fl2 A f ds (.nx δ) = forL A f ds δ := rfl
theorem f_ct : fl2 A f ds (.ct δ) = forL A f ds δ := rfl
theorem f_bk : fl2 A f ds (.bk δ) = .nx δ := rfl
theorem f_rt : fl2 A f ds (.rt x δ) = .rt x δ := rfl
theorem f_ex : fl2 A f ds (.ex c n es δ) = .ex c n es δ := rfl
end
/-- a loop by an invariant over the items taken so far -/
theorem for_inv {A : D → DEnv → Option DEnv} {f : DS} (I : List D → DEnv → Prop) : ∀ (ds pre : List D) (δ : DEnv), I pre δ →
    (∀ (pre : List D) (d : D) (δ : DEnv), d ∈ ds → I pre δ → ∃ δ2, fl1 A f [] (A d δ) = .nx δ2 ∧ I (pre ++ [d]) δ2 ∧ ∀ r, fl1 A f r (A d δ) = forL A f r δ2) →
    ∃ δ', forL A f ds δ = .nx δ' ∧ I (pre ++ ds) δ'
  | [], pre, δ, h, _ => ⟨δ, rfl, by rw [List.append_nil]; exact h⟩
  | d :: ds, pre, δ, h, st => by
    obtain ⟨δ2, _, i2, e2⟩ := st pre d δ List.mem_cons_self h
    obtain ⟨δ', e3, i3⟩ := for_inv I ds (pre ++ [d]) δ2 i2 fun pre d δ hd h => st pre d δ (List.mem_cons_of_mem _ hd) h
    exact ⟨δ', by rw [f_cons, e2, e3], by rw [List.append_assoc] at i3; exact i3⟩
/-- the same, told by what one turn gives -/
theorem for_turn {A : D → DEnv → Option DEnv} {f : DS} (I : List D → DEnv → Prop) (ds : List D) (δ : DEnv) (h : I [] δ)
    (st : ∀ (pre : List D) (d : D) (δ : DEnv), d ∈ ds → I pre δ → ∃ δ1 δ2, A d δ = some δ1 ∧ f δ1 = .nx δ2 ∧ I (pre ++ [d]) δ2) : ∃ δ', forL A f ds δ = .nx δ' ∧ I ds δ' := by
  obtain ⟨δ', e, i⟩ := for_inv (A := A) (f := f) I ds [] δ h fun pre d δ hd h => by
    obtain ⟨δ1, δ2, e1, e2, i2⟩ := st pre d δ hd h
    exact ⟨δ2, by rw [e1]; show fl2 A f [] (f δ1) = _; rw [e2]; rfl, i2, fun r => by rw [e1]; show fl2 A f r (f δ1) = _; rw [e2]; rfl⟩
  exact ⟨δ', e, i⟩
theorem for_pos {A : D → DEnv → Option DEnv} {f : DS} (I : List D → DEnv → Prop) (all : List D) : ∀ (ds pre : List D) (δ : DEnv), all = pre ++ ds → I pre δ →
    (∀ (pre : List D) (d : D) (r : List D) (δ : DEnv), all = pre ++ d :: r → I pre δ → ∃ δ1 δ2, A d δ = some δ1 ∧ f δ1 = .nx δ2 ∧ I (pre ++ [d]) δ2) → ∃ δ', forL A f ds δ = .nx δ' ∧ I all δ'
  | [], pre, δ, e, h, _ => ⟨δ, rfl, by rw [e, List.append_nil]; exact h⟩
  | d :: ds, pre, δ, e, h, st => by
    obtain ⟨δ1, δ2, e1, e2, i2⟩ := st pre d ds δ e h
    obtain ⟨δ', e3, i3⟩ := for_pos I all ds (pre ++ [d]) δ2 (by rw [e, List.append_assoc]; rfl) i2 st
    exact ⟨δ', by rw [f_cons, e1]; show fl2 A f ds (f δ1) = _; rw [e2]; exact e3, i3⟩
/-! ### stores -/
def pvK (j : Nat) (d : D) (δ : DEnv) : Option Sl → Option DEnv
  | some (.own _) => some (δ.set j (.own d))
  | some (.rf _) => some (δ.set j (.rf d))
  | _ => none
def spK4 (j : Nat) (ds : List D) (v : D) (δ : DEnv) : Option Nat → SO
  | some m => oNx (putV j (.lst (ds.set m v)) δ)
  | none => .st
def spK3 (j : Nat) (v i : D) (δ : DEnv) : Option D → SO
  | some (.lst ds) => (match i with | .int n => spK4 j ds v δ (ixN ds.length n) | _ => .st)
  | _ => .st
def spK2 (j : Nat) (v : D) : EO D → SO
  | .ok i δ => spK3 j v i δ (look δ j)
  | .ex c n d δ => .ex c n d δ
  | .st => .st
def spK1 (j : Nat) (fi : DE) (v : D) (δ : DEnv) : Option D → SO
  | some _ => spK2 j v (fi δ)
  | none => .st
def spK (j : Nat) (fi : DE) : EO D → SO
  | .ok v δ => spK1 j fi v δ (look δ j)
  | .ex c n d δ => .ex c n d δ
  | .st => .st
section
variable (j : Nat) (fe fi : DE) (δ : DEnv) (v i d : D) (ds : List D) (n : Int) (m : Nat)
theorem a_putV : putV j d δ = pvK j d δ δ[j]? := by
  unfold putV pvK
  cases δ[j]? with
  | none => rfl
  | some s => cases s <;> rfl
theorem a_pv0 : pvK j d δ (some (.own v)) = some (δ.set j (.own d)) := rfl
theorem a_pv1 : pvK j d δ (some (.rf v)) = some (δ.set j (.rf d)) := rfl
theorem a_put : sPut j fe fi δ = spK j fi (fe δ) := by
  unfold sPut
  cases fe δ with
  | ok v δ1 =>
    show (match look δ1 j with | some _ => _ | none => _) = spK1 j fi v δ1 (look δ1 j)
    cases look δ1 j with
    | none => rfl
    | some d =>
      show (fi δ1).to _ = spK2 j v (fi δ1)
      cases fi δ1 with
      | ok i δ2 =>
        show (match look δ2 j, i with | some (.lst ds), .int n => _ | _, _ => _) = spK3 j v i δ2 (look δ2 j)
        cases look δ2 j with
        | none => rfl
        | some x =>
          cases x with
          | lst ds =>
            cases i with
            | int n => show (match ixN ds.length n with | some m => _ | none => _) = spK4 j ds v δ2 (ixN ds.length n); cases ixN ds.length n <;> rfl
            | _ => rfl
          | _ => rfl
      | ex c n d δ => rfl
      | st => rfl
  | ex c n d δ => rfl
  | st => rfl
theorem a_sp0 : spK j fi (.ok v δ) = spK1 j fi v δ (look δ j) := rfl
theorem a_sp1 : spK1 j fi v δ (some d) = spK2 j v (fi δ) := rfl
theorem a_sp2 : spK2 j v (.ok i δ) = spK3 j v i δ (look δ j) := rfl
theorem a_sp3 : spK3 j v (.int n) δ (some (.lst ds)) = spK4 j ds v δ (ixN ds.length n) := rfl
theorem a_sp4 : spK4 j ds v δ (some m) = oNx (putV j (.lst (ds.set m v)) δ) := rfl
end
def saK3 (j : Nat) (v : D) (δ : DEnv) : Option D → SO
  | some (.lst ds) => if ds.length < sizeLine then oNx (putV j (.lst (ds ++ [v])) δ) else .st
  | _ => .st
def saK2 (j : Nat) : EO D → SO
  | .ok v δ => saK3 j v δ (look δ j)
  | .ex c n d δ => .ex c n d δ
  | .st => .st
def saK1 (j : Nat) (fe : DE) (δ : DEnv) : Option D → SO
  | some (.lst _) => saK2 j (fe δ)
  | _ => .st
section
variable (j : Nat) (fe : DE) (δ : DEnv) (v : D) (ds : List D)
theorem a_app : sApp j fe δ = saK1 j fe δ (look δ j) := by
  unfold sApp
  cases look δ j with
  | none => rfl
  | some d =>
    cases d with
    | lst es =>
      show (fe δ).to _ = saK2 j (fe δ)
      cases fe δ with
      | ok v δ1 =>
        show (match look δ1 j with | some (.lst ds) => _ | _ => _) = saK3 j v δ1 (look δ1 j)
        cases look δ1 j with
        | none => rfl
        | some x => cases x <;> rfl
      | ex c n d δ => rfl
      | st => rfl
    | _ => rfl
theorem a_sa1 : saK1 j fe δ (some (.lst ds)) = saK2 j (fe δ) := rfl
theorem a_sa2 : saK2 j (.ok v δ) = saK3 j v δ (look δ j) := rfl
theorem a_sa3 (h : ds.length < sizeLine) : saK3 j v δ (some (.lst ds)) = oNx (putV j (.lst (ds ++ [v])) δ) := if_pos h
end
def auK (i : Nat) (g : D → D → Option D) (fe : DE) (δ : DEnv) : Option Sl → SO
  | some (.val x) => sK (kAug i g x) (fe δ)
  | _ => .st
theorem a_aug (i : Nat) (g : D → D → Option D) (fe : DE) (δ : DEnv) : sAug i g fe δ = auK i g fe δ δ[i]? := by
  unfold sAug auK
  cases δ[i]? with
  | none => rfl
  | some s =>
    cases s with
    | val x => show (fe δ).to _ = sK (kAug i g x) (fe δ); cases fe δ <;> rfl
    | _ => rfl
theorem a_au1 (i : Nat) (g : D → D → Option D) (fe : DE) (δ : DEnv) (x : D) : auK i g fe δ (some (.val x)) = sK (kAug i g x) (fe δ) := rfl
def au2 (i : Nat) (δ : DEnv) : Option D → SO
  | some z => oNx (setV i z δ)
  | none => .st
theorem a_au2 (i : Nat) (g : D → D → Option D) (x y : D) (δ : DEnv) : kAug i g x y δ = au2 i δ (g x y) := by unfold kAug au2; cases g x y <;> rfl
theorem a_au3 (i : Nat) (z : D) (δ : DEnv) : au2 i δ (some z) = oNx (setV i z δ) := rfl
/-! ### comprehensions -/
inductive All2 {α β : Type} (R : α → β → Prop) : List α → List β → Prop
  | nil : All2 R [] []
  | cons {a : α} {b : β} {as : List α} {bs : List β} : R a b → All2 R as bs → All2 R (a :: as) (b :: bs)
theorem All2.len {α β : Type} {R : α → β → Prop} : ∀ {as : List α} {bs : List β}, All2 R as bs → bs.length = as.length
  | _, _, .nil => rfl
  | _, _, .cons _ t => congrArg (· + 1) t.len
section
variable (A : D → DEnv → Option DEnv) (t : DT) (el : DE) (vs : List Nat)
theorem c_turn {d : D} {ds : List D} {δ δ1 δ2 δ3 : DEnv} {acc : List D} {x : D} (hv : vsFree vs δ = true) (h1 : A d (blkEnv vs δ) = some δ1) (h2 : t δ1 = .ok true δ2) (h3 : el δ2 = .ok x δ3) (hl : acc.length < sizeLine) :
    compL A t el vs (d :: ds) δ acc = compL A t el vs ds (backEnv δ δ3) (acc ++ [x]) := by
  show (if vsFree vs δ = true then _ else _) = _
  rw [if_pos hv, h1]
  show (match t δ1 with | .ok false δ2 => _ | .ok true δ2 => _ | _ => _) = _
  rw [h2]
  show (match el δ2 with | .ok x δ3 => _ | _ => _) = _
  rw [h3]
  exact if_pos hl
theorem c_skip {d : D} {ds : List D} {δ δ1 δ2 : DEnv} {acc : List D} (hv : vsFree vs δ = true) (h1 : A d (blkEnv vs δ) = some δ1) (h2 : t δ1 = .ok false δ2) :
    compL A t el vs (d :: ds) δ acc = compL A t el vs ds (backEnv δ δ2) acc := by
  show (if vsFree vs δ = true then _ else _) = _
  rw [if_pos hv, h1]
  show (match t δ1 with | .ok false δ2 => _ | .ok true δ2 => _ | _ => _) = _
  rw [h2]
/-- nothing is changed outside -/
theorem comp_map {δ : DEnv} (p : D → Bool) (g : D → D) (hv : vsFree vs δ = true) : ∀ (ds acc : List D), acc.length + ds.length ≤ sizeLine →
    (∀ d ∈ ds, ∃ δ1 δ2, A d (blkEnv vs δ) = some δ1 ∧ t δ1 = .ok (p d) δ2 ∧ (p d = false → backEnv δ δ2 = δ) ∧ (p d = true → ∃ δ3, el δ2 = .ok (g d) δ3 ∧ backEnv δ δ3 = δ)) →
    compL A t el vs ds δ acc = .ok (.lst (acc ++ (ds.filter p).map g)) δ
  | [], acc, _, _ => by show EO.ok (D.lst acc) δ = _; simp
  | d :: ds, acc, hl, h => by
    obtain ⟨δ1, δ2, h1, h2, h3, h4⟩ := h d List.mem_cons_self
    have hl' : acc.length + (ds.length + 1) ≤ sizeLine := hl
    cases q : p d with
    | false =>
      rw [q] at h2
      rw [c_skip A t el vs hv h1 h2, h3 q, comp_map p g hv ds acc (by omega) fun d hd => h d (List.mem_cons_of_mem _ hd), List.filter_cons, q]
      rfl
    | true =>
      rw [q] at h2
      obtain ⟨δ3, h5, h6⟩ := h4 q
      rw [c_turn A t el vs hv h1 h2 h5 (by omega), h6, comp_map p g hv ds (acc ++ [g d]) (by rw [List.length_append]; show acc.length + 1 + ds.length ≤ _; omega) fun d hd => h d (List.mem_cons_of_mem _ hd), List.filter_cons, q]
      simp
end
theorem opn (ks : List Bool) (ds : List D) (n : Nat) (F : DS) (h : ds.length = ks.length) : defF ks n F ds = toFO ks (F (mkEnv ks ds n)) := if_pos h
theorem ct_rf (x : D) : (Sl.rf x).cont = some x := rfl
theorem ct_own (x : D) : (Sl.own x).cont = some x := rfl
theorem gEq_int (a b : Int) : gEq false (.int a) (.int b) = some (.bl (a == b)) := rfl
theorem gNe_int (a b : Int) : gEq true (.int a) (.int b) = some (.bl (!(a == b))) := rfl
end DL

set_option maxRecDepth 100000
set_option maxHeartbeats 1000000
namespace DL
open PySem PySem.Spec PyProof.Rows L2
end DL

set_option maxRecDepth 100000
set_option maxHeartbeats 1000000
namespace DL
open PySem PySem.Spec PyProof.Rows L2
section
variable {c : Cf} {X : Cx} {e : Expr} {fe : DE} {p ap pos : Pos} {a : Str} {j : Nat}
theorem jf_dict0 : JF c X (.Dict [] [] pos) (dC (.dct [] [])) := fun R H0 G0 H G σ δ Q k h pins s I => by
  refine pe_dnewK.run pins s σ H Q I fun q nq => ?_
  have gr := Grow.fresh k.sub nq (.dK [])
  exact h q _ _ gr.gk (k.grow gr) (k.freshG nq) (k.freshH0 nq) ⟨[], upd_same, rfl, .nil⟩ fun j t e o' => k.freshSl nq e o'
end
end DL

set_option maxRecDepth 100000
set_option maxHeartbeats 4000000
/-! a comprehension whose element may raise -/
namespace DL
open PySem PySem.Spec PyProof.Rows L2
open HandSPX (HeldZ TracedZ FlyingZ)
section
variable {M : Model} {A : Around} {E : Value → Shared → Prop} {s : Shared} {Z : Obj → Prop} {B : Heap} {v : Env} {out : List Env} {L J a : Addr}
theorem rawNe {i j : Addr} (h : i ≠ j) : (rawInt (i : Int) == rawInt (j : Int)) = false := by
  apply beq_eq_false_iff_ne.mpr
  intro e
  have e2 : ((i : Int)) = (j : Int) := by
    injection e
  exact h (by exact_mod_cast e2)
/-- noted by another's mark, now by this frame's -/
theorem markOn {Q : Unit → Shared → Prop} (st : HandSPX.Steady Z) (hA : A.frames = some (v :: out)) (hv : v.frame = some L) (ne : J ≠ L) (x : HeldZ B (v :: out) a Z J s.heap)
    (k : ∀ h2, HeldZ B (v :: out) a Z L h2 → s.heap.UpToSlots h2 → Q () { s with heap := h2 }) : wpAny M A (noteFrame (.ref a) v) Q E s := by
  obtain ⟨b1, b2, b3, o1, f1, R, o2, f2, e1, z1, d1, i1, nR, Ra, e2, d2, i3⟩ := x
  unfold noteFrame
  simp only [hv]
  refine wpAny_bind (wpAny_field e1 d1 i1 ?_)
  have c1 : (Value.ref R != Value.none) = true := by simp
  rw [if_pos c1]
  refine wpAny_bind (wpAny_field e2 d2 i3 ?_)
  have c2 : ¬ (rawInt (J : Int) == rawInt (L : Int)) = true := by rw [rawNe ne]; decide
  rw [if_neg c2]
  have l3 : 3 < f2.size := (Array.getElem?_eq_some_iff.mp i3).1
  refine wpAny_bind (wpAny_setField e2 d2 l3 ?_)
  have off : ∀ c, c ≠ R → (s.heap.update R (Obj.mapFields (·.setIfInBounds 3 Value.none))).get? c = s.heap.get? c := fun c hc => Heap.get?_update_other _ _ hc.symm
  have plain : ∀ c o, s.heap.get? c = some o → (∀ fs, o.data ≠ .fields fs) → c ≠ R := fun c o q n z => by
    rw [z, e2] at q
    cases q
    exact n f2 d2
  have fr2 : (s.heap.update R (Obj.mapFields (·.setIfInBounds 3 Value.none))).FunFrames B (v :: out) := b3.of_keeps fun c o q n => ⟨o, by rw [off c (plain c o q n)]; exact q, rfl⟩
  have st2 : B.StaysIn (s.heap.update R (Obj.mapFields (·.setIfInBounds 3 Value.none))) := fun c o q => by
    rw [off c fun z => by rw [z, nR] at q; cases q]
    exact b1 c o q
  have l1 : 1 < f1.size := (Array.getElem?_eq_some_iff.mp i1).1
  refine HandSPX.wpAny_entryZ st hA fr2 hv (by rw [off a Ra.symm]; exact e1) st2 b2 d1 l1 z1 fun h2 ⟨n1, n2, n3, n4⟩ => ?_
  refine k h2 ⟨n1, b2, n2, n3⟩ fun c o q n => n4 c o ?_ n
  rw [off c (plain c o q n)]
  exact q
/-- whatever it was: noted by this frame -/
theorem skyNote {Q : Unit → Shared → Prop} (st : HandSPX.Steady Z) (hA : A.frames = some (v :: out)) (hv : v.frame = some L) (x : Sky B (v :: out) a Z J s.heap)
    (k : ∀ h2, HeldZ B (v :: out) a Z L h2 → s.heap.UpToSlots h2 → Q () { s with heap := h2 }) : wpAny M A (noteFrame (.ref a) v) Q E s := by
  rcases x with ⟨x1, x2, x3, oe, fs, x4, x5, x6, x7⟩ | x | x
  · exact HandSPX.look_newZ st hA x3 hv x4 x1 x2 x6 x7 x5 k
  · exact HandSPX.looks_onZ st hA hv x k
  · by_cases e : J = L
    · subst e
      exact HandSPX.againZ hv x.2.2.2 (k s.heap x (.refl _))
    · exact markOn st hA hv e x k
theorem passUp {what : String} {l : List Env} {e : Env} (he : e.frame = some L) (x : HeldZ B l a Z L s.heap) (k : ∀ h2, HeldZ B l a Z L h2 → s.heap.UpToSlots h2 → E (.ref a) { s with heap := h2 }) :
    wpAny M A (PySem.passOn what (.ref a) e : Sem Value) (fun _ _ => False) E s := by
  have y := x
  obtain ⟨_, _, _, o1, f1, R, _, _, e1, _, d1, i1, _⟩ := y
  unfold PySem.passOn
  refine wpAny_bind (wpAny_field e1 d1 i1 ?_)
  have c1 : ¬ (Value.ref R == Value.none) = true := by simp
  rw [if_neg c1, he]
  refine wpAny_bind ?_
  exact HandSPX.setFlight_onZ x fun h2 y u => wpAny_throw (k h2 y u)
end
theorem framesTo {B B' h h' : Heap} : ∀ {l : List Env}, h.FunFrames B l → (∀ b, b ∈ frs l → ∀ o, h.get? b = some o → ∃ o', h'.get? b = some o' ∧ o'.data = o.data) → (∀ b, B.get? b = none → B'.get? b = none) → h'.FunFrames B' l
  | [], _, _, _ => trivial
  | e :: l, ⟨x1, ⟨L, o, x2, x3, x4, x5⟩, x6⟩, k, kb => by
    have hin : frs (e :: l) = L :: frs l := by show List.filterMap _ _ = _; rw [List.filterMap_cons, x2]; rfl
    obtain ⟨o', q, dd⟩ := k L (by rw [hin]; exact List.mem_cons_self) o x4
    exact ⟨x1, ⟨L, o', x2, kb L x3, q, fun fs => by rw [dd]; exact x5 fs⟩, framesTo x6 (fun b hb => k b (by rw [hin]; exact List.mem_cons_of_mem _ hb)) kb⟩
/-- behind the block: what is made, or what flies on -/
def outR (M : Model) (A : Around) (E : Value → Shared → Prop) (u : Option (Value → Sem Unit)) (Q : Value → Shared → Prop) (acc : Value) (ce : Env) : Result → Shared → Prop
  | .ok f => compPost M A E u Q acc ce.locals (.ok f)
  | .error x => fun t => ∃ m, t.heap.Ns ce.locals m ∧ ∀ h2, Heap.SameBut ce.locals t.heap h2 → wpAny M A (PySem.passOn "comprehension.variables-let-go" x ce : Sem Value) (fun _ _ => False) E { t with heap := h2 }
/-- an exception leaves the block for the air of X -/
theorem XE.out {X : Cx} {W : WX} {pins pn : List (Addr × Obj)} {σ : L2.St} {H3 : Hp} {s3 : Shared} {sc : Scope} {cs : List (Str × Addr)} {fp : List Addr} {xe : Value → Shared → Prop} {u : Option (Value → Sem Unit)} {Q : Value → Shared → Prop} {acc : Value} {y : Value} {t : Shared}
    (hst : X.stack = X.env :: X.outer) (hfr : X.env.frame = some X.env.locals) (tk : Takes X W) (I3 : Inv X pins σ H3 s3) (hfp : ∀ b ∈ fp, FpOk X pins H3 b)
    (xx : XE ((X.blk s3 H3 sc (compEnvC sc cs s3.heap.objs.size X.env) fp).tr pn xe) (fun cls d _ H => W cls d σ H) y t) :
    notedBy (model X.prog X.w) X.A (compEnvC sc cs s3.heap.objs.size X.env) (fun e t' => outR (model X.prog X.w) X.A X.xe u Q acc (compEnvC sc cs s3.heap.objs.size X.env) (.error e) t') y t := by
  obtain ⟨a, B, sI, pins2, σ2, H', cls, d, rfl, I, nb, up, sky, na, os, ag, w⟩ := xx
  have cn : H' s3.heap.objs.size = none := I.free
  have ck := I3.fpOk (Nat.le_refl _) cn
  have cfr : s3.heap.objs.size ∉ frs X.stack := fun z => by
    rcases List.mem_cons.mp (I3.stkSub _ z) with z | z
    · exact ck.2.1 z
    · exact ck.2.2.1 z
  have I7 : Inv X pins σ H' sI := I3.call' (ch := fp) I.os I.base I.hok I.bare fun b hb => ⟨(hfp b hb).2.2.2.1, (hfp b hb).2.1, (hfp b hb).2.2.2.2.1, (hfp b hb).2.2.2.2.2⟩
  obtain ⟨m, hn, _⟩ := I.loc
  have hn : sI.heap.Ns s3.heap.objs.size m := hn
  have hA : X.A.frames = some (X.env :: X.outer) := by rw [I3.ok.frames, hst]
  have sky : Sky B (X.env :: X.outer) a (Zc cls d) s3.heap.objs.size t.heap := by rw [← hst]; exact sky
  show wpAny _ _ (noteFrame (.ref a) X.env) _ _ t
  refine skyNote Zc.steady hA hfr sky fun h1 x1 u1 => ?_
  refine ⟨m, (up.trans u1).ns hn, fun h2 sb => ?_⟩
  have sb : Heap.SameBut s3.heap.objs.size h1 h2 := sb
  obtain ⟨oc, es, ep, hc, dc, _⟩ := (up.trans u1).ns hn
  have nC : ∀ b o fs, h1.get? b = some o → o.data = .fields fs → b ≠ s3.heap.objs.size := fun b o fs q dd z => by
    rw [z, hc] at q
    cases q
    rw [dc] at dd
    cases dd
  obtain ⟨B2, p1, p2⟩ := restrict B fun b => decide (b ≠ s3.heap.objs.size)
  have p1 : ∀ b, b ≠ s3.heap.objs.size → B2.get? b = B.get? b := fun b hb => p1 b (by simp [hb])
  have p2 : B2.get? s3.heap.objs.size = none := p2 _ (by simp)
  have pn2 : ∀ b, B.get? b = none → B2.get? b = none := fun b q => by
    by_cases z : b = s3.heap.objs.size
    · rw [z]; exact p2
    · rw [p1 b z]; exact q
  have x2 : HeldZ B2 (X.env :: X.outer) a (Zc cls d) X.env.locals h2 := by
    obtain ⟨y1, y2, y3, o1, f1, R, o2, f2, e1, z1, d1, i1, nR, Ra, e2, d2, i3⟩ := x1
    refine ⟨fun b o q => ?_, pn2 a y2, framesTo y3 (fun b hb o q => ⟨o, ?_, rfl⟩) pn2, o1, f1, R, o2, f2, ?_, z1, d1, i1, pn2 R nR, Ra, ?_, d2, i3⟩
    · have hb : b ≠ s3.heap.objs.size := fun z => by rw [z, p2] at q; cases q
      rw [sb.2 b hb]
      exact y1 b o (by rw [← p1 b hb]; exact q)
    · rw [sb.2 b fun z => cfr (by rw [hst, ← z]; exact hb)]
      exact q
    · rw [sb.2 a (nC a o1 f1 e1 d1)]; exact e1
    · rw [sb.2 R (nC R o2 f2 e2 d2)]; exact e2
  refine passUp hfr x2 fun h3 x3 u3 => ?_
  obtain ⟨G, g1, g2⟩ := restrict sI.heap fun b => decide (b ≠ s3.heap.objs.size)
  have g1 : ∀ b, b ≠ s3.heap.objs.size → G.get? b = sI.heap.get? b := fun b hb => g1 b (by simp [hb])
  have g2 : G.get? s3.heap.objs.size = none := g2 _ (by simp)
  have gC : ∀ b o, G.get? b = some o → b ≠ s3.heap.objs.size := fun b o q z => by rw [z, g2] at q; cases q
  refine tk _ _ ⟨a, B2, { sI with heap := G, toks := sI.toks }, pins, σ, H', cls, d, rfl, ?_, fun b o q hb => ?_, fun b o q n => ?_, .inr (.inr ?_), na, os, ag, w⟩
  · obtain ⟨f0, f1, f2, f3, f4, f5⟩ := ck
    exact I7.turned (fun b o hb q => by rw [g1 b hb]; exact q) f0 f1 f3 f4 f5
  · have hc2 := gC b o q
    rw [p1 b hc2]
    exact nb b o (by rw [← g1 b hc2]; exact q) hb
  · have hc2 := gC b o q
    obtain ⟨sl, q1⟩ := (up.trans u1) b o (by rw [← g1 b hc2]; exact q) n
    obtain ⟨sl2, q2⟩ := u3 b { o with slots := sl } ((sb.2 b hc2).trans q1) n
    exact ⟨sl2, q2⟩
  · rw [hst]; exact x3
end DL

set_option maxRecDepth 100000
set_option maxHeartbeats 4000000
/-! a comprehension whose element may raise: the whole block, then over deep values -/
namespace DL
open PySem PySem.Spec PyProof.Rows L2
section
variable {X : Cx} {W : WX}
end
end DL

set_option maxRecDepth 100000
set_option maxHeartbeats 4000000
namespace DL
open PySem PySem.Spec PyProof.Rows L2
def compLX (A : D → DEnv → Option DEnv) (t : DT) (el : DE) (vs : List Nat) : List D → DEnv → List D → EO D
  | [], δ, acc => .ok (.lst acc) δ
  | d :: ds, δ, acc => if vsFree vs δ = true then match A d (blkEnv vs δ) with
      | none => .st
      | some δ1 => match t δ1 with
        | .ok false δ2 => compLX A t el vs ds (backEnv δ δ2) acc
        | .ok true δ2 => (match el δ2 with
          | .ok x δ3 => if acc.length < sizeLine then compLX A t el vs ds (backEnv δ δ3) (acc ++ [x]) else .st
          | .ex c ns es δ3 => .ex c ns es (backEnv δ δ3)
          | .st => .st)
        | _ => .st
    else .st
def dCompX (it : DI) (A : D → DEnv → Option DEnv) (t : DT) (el : DE) (vs : List Nat) : DE := fun δ => (it δ).bind fun ds δ1 => compLX A t el vs ds δ1 []
section
variable {c : Cf} {X : Cx} {tg e : Expr} {pos : Pos}
end
end DL

set_option maxRecDepth 100000
set_option maxHeartbeats 4000000
/-! try and raising comprehensions, reckoned from within -/
namespace DL
open PySem PySem.Spec PyProof.Rows L2
def tryK (tab : Str → Str → Option Bool) (hs : List (Str × DS)) : SO → SO
  | .ex cn ns ds δ => tryH tab hs cn ns ds δ
  | o => o
def tryK2 (tab : Str → Str → Option Bool) (s : DS) (r : List (Str × DS)) (cn : Str) (ns : List Str) (ds : List D) (δ : DEnv) : Option Bool → SO
  | some true => (match s δ with
    | .ex _ _ _ _ => .st
    | o => o)
  | some false => tryH tab r cn ns ds δ
  | none => .st
def hdS : SO → SO
  | .ex _ _ _ _ => .st
  | o => o
section
variable (tab : Str → Str → Option Bool) (hs r : List (Str × DS)) (f s : DS) (δ : DEnv) (d : D) (h cn : Str) (ns : List Str) (ds : List D)
theorem a_try : sTry tab f hs δ = tryK tab hs (f δ) := by unfold sTry tryK; cases f δ <;> rfl
theorem a_tryK_0 : tryK tab hs (.nx δ) = .nx δ := rfl
theorem a_tryK_1 : tryK tab hs (.rt d δ) = .rt d δ := rfl
theorem a_tryK_2 : tryK tab hs (.ex cn ns ds δ) = tryH tab hs cn ns ds δ := rfl
theorem a_tryH_0 : tryH tab [] cn ns ds δ = .ex cn ns ds δ := rfl
theorem a_tryH_1 : tryH tab ((h, s) :: r) cn ns ds δ = tryK2 tab s r cn ns ds δ (tab cn h) := by
  show (match tab cn h with | some true => _ | some false => _ | none => _) = _
  cases tab cn h with
  | none => rfl
  | some b => cases b <;> rfl
theorem a_tryK2_0 : tryK2 tab s r cn ns ds δ (some true) = hdS (s δ) := by
  show (match s δ with | .ex _ _ _ _ => SO.st | o => o) = _
  cases s δ <;> rfl
theorem a_tryK2_1 : tryK2 tab s r cn ns ds δ (some false) = tryH tab r cn ns ds δ := rfl
theorem a_hdS_0 : hdS (.nx δ) = .nx δ := rfl
theorem a_hdS_1 : hdS (.rt d δ) = .rt d δ := rfl
end
def compKX (A : D → DEnv → Option DEnv) (t : DT) (el : DE) (vs : List Nat) : EO (List D) → EO D
  | .ok ds δ => compLX A t el vs ds δ []
  | .ex c n d δ => .ex c n d δ
  | .st => .st
section
variable (A : D → DEnv → Option DEnv) (t : DT) (el : DE) (vs : List Nat)
theorem a_compX (it : DI) (δ : DEnv) : dCompX it A t el vs δ = compKX A t el vs (it δ) := by unfold dCompX; cases it δ <;> rfl
theorem a_compKX_0 (ds : List D) (δ : DEnv) : compKX A t el vs (.ok ds δ) = compLX A t el vs ds δ [] := rfl
end
end DL

set_option maxRecDepth 100000
set_option maxHeartbeats 4000000
namespace DL
open PySem PySem.Spec PyProof.Rows L2

/-! ### fields of instances -/
theorem RepL.lookup {K : PySem.W.Frag} {cl : Cw} {G : Hp} : ∀ {vs : List D} {xs : List V}, RepL K cl G xs vs → ∀ {ns : List Str} {f : Str} {d : D}, (ns.zip vs).lookup f = some d → ∃ v, (ns.zip xs).lookup f = some v ∧ Rep K cl G v d
  | [], _, h, ns, f, d, e => by cases ns <;> simp at e
  | v :: vs, _, h, ns, f, d, e => by
    cases h with
    | @cons x xs _ _ h1 h2 =>
      cases ns with
      | nil => simp at e
      | cons n ns =>
        simp only [List.zip_cons_cons, List.lookup_cons] at e ⊢
        cases q : f == n with
        | true => rw [q] at e; cases e; exact ⟨x, rfl, h1⟩
        | false => rw [q] at e; exact h2.lookup e
def dFld (cs : List Str) (f : Str) (fe : DE) : DE := fun δ => (fe δ).bind fun x δ1 => match x with
  | .ins c ns vs => if cs.contains c = true then (match (ns.zip vs).lookup f with | some d => .ok d δ1 | none => .st) else .st
  | _ => .st
section
variable {c : Cf} {X : Cx} {e o value : Expr} {fe fv : DE} {pos pos' : Pos} {f : Str} {cs : List Str}
end
/-! ### self.f = e, self by reference -/
def putN (f : Str) : List Str → List Str
  | [] => [f]
  | g :: r => if g = f then g :: r else g :: putN f r
def putD {α : Type} (f : Str) (v : α) : List Str → List α → List α
  | [], _ => [v]
  | g :: r, x :: xs => if g = f then v :: xs else x :: putD f v r xs
  | _ :: _, [] => []
theorem RepL.putD {K : PySem.W.Frag} {cl : Cw} {G : Hp} {v : V} {d : D} (f : Str) (r : Rep K cl G v d) : ∀ {vs : List D} {xs : List V}, RepL K cl G xs vs → ∀ (ns : List Str), RepL K cl G (DL.putD f v ns xs) (DL.putD f d ns vs)
  | [], _, h, ns => by
    cases h
    cases ns with
    | nil => exact .cons r .nil
    | cons n ns => exact .nil
  | y :: vs, _, h, ns => by
    cases h with
    | cons h1 h2 =>
      cases ns with
      | nil => exact .cons r .nil
      | cons n ns =>
        by_cases q : n = f
        · simp only [DL.putD, if_pos q]; exact .cons r h2
        · simp only [DL.putD, if_neg q]; exact .cons h1 (RepL.putD f r h2 ns)
def sPutF (cs : List Str) (j : Nat) (f : Str) (fe : DE) : DS := fun δ => (fe δ).to fun v δ1 => match look δ1 j with
  | some (.ins c ns vs) => if cs.contains c = true ∧ ns.length < 1000 then oNx (putV j (.ins c (putN f ns) (putD f v ns vs)) δ1) else .st
  | _ => .st
section
variable {c : Cf} {X : Cx} {e o value : Expr} {fe fv : DE} {pos pos' : Pos} {f : Str} {cs : List Str} {j : Nat}
end
end DL

set_option maxRecDepth 100000
set_option maxHeartbeats 4000000
namespace DL
open PySem PySem.Spec PyProof.Rows L2

/-! ### methods of frozen instances -/
def isIns (c m : Str) : D → Bool
  | .ins c' ns _ => decide (c' = c) && !ns.contains m
  | _ => false
def dRecv (c m : Str) (fe : DE) (fs : DA) : DA := fun δ => (fe δ).bind fun x δ1 => if isIns c m x = true then (fs δ1).bind fun xs δ2 => .ok (.v x :: xs) δ2 else .st
def dMeth (c m : Str) (ks : List Bool) (dvs : List D) (fn : List D → FO) (fe : DE) (fs : DA) : DE := dCall ks dvs fn (dRecv c m fe fs)
section
variable {c : Cf} {X : Cx} {CX' : CXT} {k : Nat} {C f : Addr} {fd : FuncData} {ps : List Str} {ds : List Value} {dvs : List V} {sp : Sp} {E : L2.St → XK} {e o : Expr} {es : List Expr} {ta : TE} {t : TA} {p pos apos : Pos} {m x : Str} {fe : DE} {fs : DA}
/-! ### properties -/
def dProp (cn f : Str) (fn : List D → FO) (fe : DE) : DE := fun δ => (fe δ).bind fun x δ1 => match x with
  | .ins c' _ _ => if c' = cn then (match fn [x] with | .ret d [] => .ok d δ1 | _ => .st) else .st
  | _ => .st
end
/-! ### new instances -/
def dMake (cn : Str) (ks : List Bool) (dvs : List D) (fn : List D → FO) (fs : DA) : DE := fun δ => (fs δ).bind fun as δ1 => match avs as with
  | none => .st
  | some ds => if ks = true :: (ds ++ dvs).map (fun _ => false) then (match fn (.ins cn [] [] :: (ds ++ dvs)) with
    | .ret .non [r] => .ok r δ1
    | .ex c ns es [_] => .ex c ns es δ1
    | _ => .st) else .st
section
variable {c : Cf} {X : Cx} {CX' : CXT} {k : Nat} {C f : Addr} {fd : FuncData} {ps : List Str} {ds : List Value} {dvs : List V} {sp : Sp} {E : L2.St → XK} {e o : Expr} {es : List Expr} {ta : TE} {t : TA} {p pos apos : Pos} {m x : Str} {fe : DE} {fs : DA}
end
end DL

set_option maxRecDepth 100000
set_option maxHeartbeats 4000000
namespace DL
open PySem PySem.Spec PyProof.Rows L2

/-! ### lists of ints -/
def insI (x : Int) : List Int → List Int
  | [] => [x]
  | y :: r => if x ≤ y then x :: y :: r else y :: insI x r
def sortI : List Int → List Int
  | [] => []
  | x :: r => insI x (sortI r)
section
variable {K : PySem.W.Frag} {cl : Cw}
end
section
variable {c : Cf} {X : Cx} {e : Expr} {es : List Expr} {fs : DA} {p pos : Pos}
end

/-! ### list(d.keys()) of a name -/
def keyD : Key → D
  | .inl i => .int i
  | .inr s => .str s
def dLKV (j : Nat) : DE := fun δ => match look δ j with
  | some (.dct ks _) => .ok (.lst (ks.map keyD)) δ
  | _ => .st
theorem zip_keys {α β : Type} : ∀ {ks : List α} {xs : List β}, ks.length = xs.length → (ks.zip xs).map (·.1) = ks
  | [], [], _ => rfl
  | k :: ks, x :: xs, h => by simp only [List.zip_cons_cons, List.map_cons]; rw [zip_keys (by simpa using h)]
  | [], _ :: _, h => by cases h
  | _ :: _, [], h => by cases h
section
variable {c : Cf} {X : Cx} {e : Expr} {te : TE} {p apos cpos pos : Pos} {j : Nat}
end
end DL

set_option maxRecDepth 100000
set_option maxHeartbeats 4000000
namespace DL
open PySem PySem.Spec PyProof.Rows L2

/-! ### sets of ints -/
section
variable {K : PySem.W.Frag} {cl : Cw}
end
section
variable {c : Cf} {X : Cx} {e : Expr} {es : List Expr} {fs : DA} {p pos : Pos}
end
end DL

set_option maxRecDepth 100000
set_option maxHeartbeats 4000000
namespace DL
open PySem PySem.Spec PyProof.Rows L2

/-! ### an object that is nobody's stays while parts are reckoned -/
section
variable {K : PySem.W.Frag} {cl : Cw} {hx : Addr × Option Addr} {R : List (Nat × Addr)} {H0 G0 H G : Hp} {σ : L2.St} {δ : DEnv}
end
/-! ### {k: v} -/
def toKey : D → Option Key
  | .int i => some (.inl i)
  | .str s => some (.inr s)
  | _ => none
theorem toKey_ok {K : PySem.W.Frag} {cl : Cw} {G : Hp} {v : V} {d : D} {k : Key} (r : Rep K cl G v d) (e : toKey d = some k) : v = kV k := by
  cases r <;> simp [toKey] at e <;> subst e <;> rfl
def dDct1 (fk fv : DE) : DE := fun δ => (fk δ).bind fun x δ1 => (fv δ1).bind fun y δ2 => match toKey x with
  | some k => .ok (.dct [k] [y]) δ2
  | none => .st
section
variable {c : Cf} {X : Cx} {k v : Expr} {fk fv : DE} {pos : Pos}
end
/-! ### d[k] = v of an own dict -/
def dctPut (ks : List Key) (vs : List D) (k : Key) (d : D) : D := if (ks.any fun k' => decide (k' = k)) = true then .dct ks (List.zipWith (fun k' x => if k' = k then d else x) ks vs) else .dct (ks ++ [k]) (vs ++ [d])
def sPutK (j : Nat) (fe fi : DE) : DS := fun δ => (fe δ).to fun v δ1 => match look δ1 j with
  | some _ => (fi δ1).to fun i δ2 => match look δ2 j, toKey i with
    | some (.dct ks vs), some k => if ks.length < sizeLine then oNx (putV j (dctPut ks vs k v) δ2) else .st
    | _, _ => .st
  | none => .st
section
variable {c : Cf} {X : Cx} {o i e : Expr} {j : Nat} {fe fi : DE} {tp pos : Pos}
end
end DL

set_option maxRecDepth 100000
set_option maxHeartbeats 4000000
namespace DL
open PySem PySem.Spec PyProof.Rows L2

def clsBody : Stmt → List Stmt
  | .ClassDef _ _ _ b _ _ _ _ _ _ _ => b
  | _ => []
/-! ### a hook: facts, defs at any address, further tests -/
abbrev AlZ : Type := Bool × He.AlD
def obsZ (fa : List He.Fa) (fn : List He5.DefA) (ex : List (PySem.W.Frag → Bool)) (K : PySem.W.Frag) : AlZ := (ex.all fun t => t K, He5.obsA fa fn K)
def SaysZ (fa : List He.Fa) (fn : List He5.DefA) (ex : List (PySem.W.Frag → Bool)) (K : PySem.W.Frag) : Prop := obsZ fa fn ex K = (true, He5.valA fn)
theorem SaysZ.a {fa : List He.Fa} {fn : List He5.DefA} {ex : List (PySem.W.Frag → Bool)} {K : PySem.W.Frag} (c : SaysZ fa fn ex K) : He5.SaysA fa fn K := congrArg (fun z : AlZ => z.2) c
theorem SaysZ.ex {fa : List He.Fa} {fn : List He5.DefA} {ex : List (PySem.W.Frag → Bool)} {K : PySem.W.Frag} (c : SaysZ fa fn ex K) (i : Nat) {t : PySem.W.Frag → Bool} (h : ex[i]? = some t := by rfl) : t K = true :=
  List.all_eq_true.mp (congrArg (fun z : AlZ => z.1) c) t (List.mem_of_getElem? h)
/-! ### properties -/
end DL

set_option maxRecDepth 100000
set_option maxHeartbeats 4000000
/-! the plain functions, reckoned from within: instances, sets, dicts -/
namespace DL
open PySem PySem.Spec PyProof.Rows L2
def fldO (cs : List Str) (f : Str) : D → Option D
  | .ins c ns vs => if cs.contains c = true then (ns.zip vs).lookup f else none
  | _ => none
def recvK (c m : Str) (fs : DA) : EO D → EO (List AV)
  | .ok x δ => if isIns c m x = true then consK2 x (fs δ) else .st
  | .ex c n d δ => .ex c n d δ
  | .st => .st
def propE (δ : DEnv) : FO → EO D
  | .ret d [] => .ok d δ
  | _ => .st
def propK (cn : Str) (fn : List D → FO) : EO D → EO D
  | .ok (.ins c' ns vs) δ => if c' = cn then propE δ (fn [.ins c' ns vs]) else .st
  | .ok _ _ => .st
  | .ex c n d δ => .ex c n d δ
  | .st => .st
def makeE (δ : DEnv) : FO → EO D
  | .ret .non [r] => .ok r δ
  | .ex c n d [_] => .ex c n d δ
  | _ => .st
def makeK2 (cn : Str) (ks : List Bool) (dvs : List D) (fn : List D → FO) (δ : DEnv) : Option (List D) → EO D
  | none => .st
  | some ds => if ks = true :: (ds ++ dvs).map (fun _ => false) then makeE δ (fn (.ins cn [] [] :: (ds ++ dvs))) else .st
def makeK (cn : Str) (ks : List Bool) (dvs : List D) (fn : List D → FO) : EO (List AV) → EO D
  | .ok as δ => makeK2 cn ks dvs fn δ (avs as)
  | .ex c n d δ => .ex c n d δ
  | .st => .st
def pfK2 (cs : List Str) (j : Nat) (f : Str) (v : D) (δ : DEnv) : Option D → SO
  | some (.ins c ns vs) => if cs.contains c = true ∧ ns.length < 1000 then oNx (putV j (.ins c (putN f ns) (putD f v ns vs)) δ) else .st
  | _ => .st
def pfK (cs : List Str) (j : Nat) (f : Str) : EO D → SO
  | .ok v δ => pfK2 cs j f v δ (look δ j)
  | .ex c n d δ => .ex c n d δ
  | .st => .st
def lkvK (δ : DEnv) : Option D → EO D
  | some (.dct ks _) => .ok (.lst (ks.map keyD)) δ
  | _ => .st
def dct2 (δ : DEnv) (y : D) : Option Key → EO D
  | some k => .ok (.dct [k] [y]) δ
  | none => .st
def dct1K2 (x : D) : EO D → EO D
  | .ok y δ => dct2 δ y (toKey x)
  | .ex c n d δ => .ex c n d δ
  | .st => .st
def dct1K (fv : DE) : EO D → EO D
  | .ok x δ => dct1K2 x (fv δ)
  | .ex c n d δ => .ex c n d δ
  | .st => .st
def pkK3 (j : Nat) (v : D) (δ : DEnv) : Option D → Option Key → SO
  | some (.dct ks vs), some k => if ks.length < sizeLine then oNx (putV j (dctPut ks vs k v) δ) else .st
  | _, _ => .st
def pkK2 (j : Nat) (v : D) : EO D → SO
  | .ok i δ => pkK3 j v δ (look δ j) (toKey i)
  | .ex c n d δ => .ex c n d δ
  | .st => .st
def pkK1 (j : Nat) (fi : DE) (v : D) (δ : DEnv) : Option D → SO
  | some _ => pkK2 j v (fi δ)
  | none => .st
def pkK (j : Nat) (fi : DE) : EO D → SO
  | .ok v δ => pkK1 j fi v δ (look δ j)
  | .ex c n d δ => .ex c n d δ
  | .st => .st
section
variable (δ : DEnv) (fa fb : DE) (fs : DA) (i j : Nat) (c f m : Str) (cs : List Str) (ks : List Bool) (dvs : List D) (fn : List D → FO)
theorem a_fld : dFld cs f fa δ = unK (fldO cs f) (fa δ) := by
  unfold dFld
  cases fa δ with
  | ok x δ1 =>
    cases x with
    | ins c ns vs =>
      show (if cs.contains c = true then (match (ns.zip vs).lookup f with | some d => EO.ok d δ1 | none => .st) else .st) = oE (if cs.contains c = true then (ns.zip vs).lookup f else none) δ1
      split
      · cases (ns.zip vs).lookup f <;> rfl
      · rfl
    | _ => rfl
  | ex c n d δ => rfl
  | st => rfl
theorem a_meth : dMeth c m ks dvs fn fa fs δ = callK endK ks dvs fn (recvK c m fs (fa δ)) := by
  unfold dMeth
  rw [call_eq]
  congr 1
  unfold dRecv
  cases fa δ with
  | ok x δ1 =>
    show (if isIns c m x = true then (fs δ1).bind fun xs δ2 => .ok (.v x :: xs) δ2 else .st) = if isIns c m x = true then consK2 x (fs δ1) else .st
    split
    · cases fs δ1 <;> rfl
    · rfl
  | ex c n d δ => rfl
  | st => rfl
theorem a_prop : dProp c f fn fa δ = propK c fn (fa δ) := by
  unfold dProp
  cases fa δ with
  | ok x δ1 =>
    cases x with
    | ins c' ns vs =>
      show (if c' = c then (match fn [.ins c' ns vs] with | .ret d [] => EO.ok d δ1 | _ => .st) else .st) = if c' = c then propE δ1 (fn [.ins c' ns vs]) else .st
      split
      · cases fn [.ins c' ns vs] with
        | ret d rs => cases rs <;> rfl
        | _ => rfl
      · rfl
    | _ => rfl
  | ex c n d δ => rfl
  | st => rfl
theorem a_propK (ns : List Str) (vs : List D) : propK c fn (.ok (.ins c ns vs) δ) = propE δ (fn [.ins c ns vs]) := if_pos rfl
theorem a_propE (d : D) : propE δ (.ret d []) = .ok d δ := rfl
theorem a_make : dMake c ks dvs fn fs δ = makeK c ks dvs fn (fs δ) := by
  unfold dMake
  cases fs δ with
  | ok as δ1 =>
    show (match avs as with | none => EO.st | some ds => if ks = true :: (ds ++ dvs).map (fun _ => false) then (match fn (.ins c [] [] :: (ds ++ dvs)) with | .ret .non [r] => .ok r δ1 | .ex c ns es [_] => .ex c ns es δ1 | _ => .st) else .st) = makeK2 c ks dvs fn δ1 (avs as)
    cases avs as with
    | none => rfl
    | some ds =>
      show (if ks = true :: (ds ++ dvs).map (fun _ => false) then (match fn (.ins c [] [] :: (ds ++ dvs)) with | .ret .non [r] => EO.ok r δ1 | .ex c ns es [_] => .ex c ns es δ1 | _ => .st) else .st) = if ks = true :: (ds ++ dvs).map (fun _ => false) then makeE δ1 (fn (.ins c [] [] :: (ds ++ dvs))) else .st
      split
      · cases fn (.ins c [] [] :: (ds ++ dvs)) with
        | ret d rs =>
          cases d with
          | non =>
            match rs with
            | [] => rfl
            | [r] => rfl
            | _ :: _ :: _ => rfl
          | _ => rfl
        | ex c n d rs =>
          match rs with
          | [] => rfl
          | [r] => rfl
          | _ :: _ :: _ => rfl
        | _ => rfl
      · rfl
  | ex c n d δ => rfl
  | st => rfl
theorem a_makeK (as : List AV) : makeK c ks dvs fn (.ok as δ) = makeK2 c ks dvs fn δ (avs as) := rfl
theorem a_makeE (r : D) : makeE δ (.ret .non [r]) = .ok r δ := rfl
theorem a_putF : sPutF cs j f fa δ = pfK cs j f (fa δ) := by
  unfold sPutF
  cases fa δ with
  | ok x δ1 =>
    show (match look δ1 j with | some (.ins c ns vs) => if cs.contains c = true ∧ ns.length < 1000 then oNx (putV j (.ins c (putN f ns) (putD f x ns vs)) δ1) else .st | _ => .st) = pfK2 cs j f x δ1 (look δ1 j)
    cases look δ1 j with
    | none => rfl
    | some d => cases d <;> rfl
  | ex c n d δ => rfl
  | st => rfl
theorem a_pfK (v : D) : pfK cs j f (.ok v δ) = pfK2 cs j f v δ (look δ j) := rfl
theorem a_lkv : dLKV j δ = lkvK δ (look δ j) := by
  unfold dLKV
  cases look δ j with
  | none => rfl
  | some d => cases d <;> rfl
theorem a_lkvK (k : List Key) (vs : List D) : lkvK δ (some (.dct k vs)) = .ok (.lst (k.map keyD)) δ := rfl
theorem a_dct1 : dDct1 fa fb δ = dct1K fb (fa δ) := by
  unfold dDct1
  cases fa δ with
  | ok x δ1 =>
    show (fb δ1).bind _ = dct1K2 x (fb δ1)
    cases fb δ1 with
    | ok y δ2 => show (match toKey x with | some k => EO.ok (.dct [k] [y]) δ2 | none => .st) = dct2 δ2 y (toKey x); cases toKey x <;> rfl
    | ex c n d δ => rfl
    | st => rfl
  | ex c n d δ => rfl
  | st => rfl
theorem a_dct1K (x : D) : dct1K fb (.ok x δ) = dct1K2 x (fb δ) := rfl
theorem a_dct1K2 (x y : D) : dct1K2 x (.ok y δ) = dct2 δ y (toKey x) := rfl
theorem a_dct2 (y : D) (k : Key) : dct2 δ y (some k) = .ok (.dct [k] [y]) δ := rfl
theorem a_key (n : Int) : toKey (.int n) = some (.inl n) := rfl
theorem a_putK : sPutK j fa fb δ = pkK j fb (fa δ) := by
  unfold sPutK
  cases fa δ with
  | ok x δ1 =>
    show (match look δ1 j with | some _ => (fb δ1).to _ | none => .st) = pkK1 j fb x δ1 (look δ1 j)
    cases look δ1 j with
    | none => rfl
    | some d =>
      show (fb δ1).to _ = pkK2 j x (fb δ1)
      cases fb δ1 with
      | ok y δ2 =>
        show (match look δ2 j, toKey y with | some (.dct ks vs), some k => if ks.length < sizeLine then oNx (putV j (dctPut ks vs k x) δ2) else .st | _, _ => .st) = pkK3 j x δ2 (look δ2 j) (toKey y)
        cases look δ2 j with
        | none => rfl
        | some d => cases d <;> cases toKey y <;> rfl
      | ex c n d δ => rfl
      | st => rfl
  | ex c n d δ => rfl
  | st => rfl
theorem a_pk0 (v : D) : pkK j fb (.ok v δ) = pkK1 j fb v δ (look δ j) := rfl
theorem a_pk1 (v d : D) : pkK1 j fb v δ (some d) = pkK2 j v (fb δ) := rfl
theorem a_pk2 (v i : D) : pkK2 j v (.ok i δ) = pkK3 j v δ (look δ j) (toKey i) := rfl
end
def rg2 : D → D → Option (List D)
  | .int i, .int j => if -(2 ^ 62) ≤ i ∧ i < 2 ^ 62 ∧ -(2 ^ 62) ≤ j ∧ j < 2 ^ 62 then some (rngD i j) else none
  | _, _ => none
def oL : Option (List D) → DEnv → EO (List D)
  | some z, δ => .ok z δ
  | none, _ => .st
def rg2K2 (x : D) : EO D → EO (List D)
  | .ok y δ => oL (rg2 x y) δ
  | .ex c n d δ => .ex c n d δ
  | .st => .st
def rg2K (fb : DE) : EO D → EO (List D)
  | .ok x δ => rg2K2 x (fb δ)
  | .ex c n d δ => .ex c n d δ
  | .st => .st
section
variable (δ : DEnv) (fa fb : DE)
theorem a_rg2 : dRg2 fa fb δ = rg2K fb (fa δ) := by
  unfold dRg2
  cases fa δ with
  | ok x δ1 =>
    show (fb δ1).bind _ = rg2K2 x (fb δ1)
    cases fb δ1 with
    | ok y δ2 =>
      cases x with
      | int i =>
        cases y with
        | int j =>
          show (if -(2 ^ 62) ≤ i ∧ i < 2 ^ 62 ∧ -(2 ^ 62) ≤ j ∧ j < 2 ^ 62 then EO.ok (rngD i j) δ2 else .st) = oL (if -(2 ^ 62) ≤ i ∧ i < 2 ^ 62 ∧ -(2 ^ 62) ≤ j ∧ j < 2 ^ 62 then some (rngD i j) else none) δ2
          split <;> rfl
        | _ => rfl
      | _ => cases y <;> rfl
    | ex c n d δ => rfl
    | st => rfl
  | ex c n d δ => rfl
  | st => rfl
theorem a_rg2K (x : D) : rg2K fb (.ok x δ) = rg2K2 x (fb δ) := rfl
theorem a_rg2K2 (x y : D) : rg2K2 x (.ok y δ) = oL (rg2 x y) δ := rfl
theorem a_oL (l : List D) : oL (some l) δ = .ok l δ := rfl
end
end DL

set_option maxRecDepth 100000
set_option maxHeartbeats 4000000
namespace DL
open PySem PySem.Spec PyProof.Rows L2

/-! ### `in` by an own class -/
section
variable {c : Cf} {X : Cx} {k : Nat} {C f : Addr} {fd : FuncData} {ps : List Str} {sp : Sp}
end
/-! ### reckoning -/
end DL

set_option maxRecDepth 100000
set_option maxHeartbeats 4000000
namespace DL
open PySem PySem.Spec PyProof.Rows L2

/-! ### a call that is lent lists: what it hands back holds none of them -/
def scal : D → Bool
  | .non => true | .bl _ => true | .int _ => true | .str _ => true | _ => false
def dCallW (ks : List Bool) (dvs : List D) (fn : List D → FO) (fs : DA) : DE := fun δ => (fs δ).bind fun as δ1 => match avd δ1 as with
  | some ds => if ks = (ds ++ dvs).map (fun _ => false) then (match fn (ds ++ dvs) with | .ret d [] => if scal d = true then .ok d δ1 else .st | _ => .st) else .st
  | none => .st
section
variable {K : PySem.W.Frag} {cl : Cw} {hx : Addr × Option Addr} {R : List (Nat × Addr)} {H0 G0 H G : Hp} {σ : L2.St} {δ : DEnv}
end
section
variable {c : Cf} {X : Cx} {k : Nat} {e : Expr} {es : List Expr} {fs : DA} {x : Str} {p pos : Pos}
/-! ### tuple(x) of a list that stays one's own -/
def dTupV (j : Nat) : DE := fun δ => match look δ j with
  | some (.lst ds) => .ok (.tup ds) δ
  | _ => .st
end
/-! ### reckoning -/
def cwE (δ : DEnv) : FO → EO D
  | .ret d [] => if scal d = true then .ok d δ else .st
  | _ => .st
def cwD (ks : List Bool) (dvs : List D) (fn : List D → FO) (δ : DEnv) : Option (List D) → EO D
  | some ds => if ks = (ds ++ dvs).map (fun _ => false) then cwE δ (fn (ds ++ dvs)) else .st
  | none => .st
def cwK (ks : List Bool) (dvs : List D) (fn : List D → FO) : EO (List AV) → EO D
  | .ok as δ => cwD ks dvs fn δ (avd δ as)
  | .ex c n d δ => .ex c n d δ
  | .st => .st
section
variable (ks : List Bool) (dvs : List D) (fn : List D → FO) (fs : DA) (δ : DEnv) (j : Nat)
theorem a_cw : dCallW ks dvs fn fs δ = cwK ks dvs fn (fs δ) := by
  unfold dCallW
  cases fs δ with
  | ok as δ1 =>
    show (match avd δ1 as with | some ds => _ | none => _) = cwD ks dvs fn δ1 (avd δ1 as)
    cases avd δ1 as with
    | none => rfl
    | some ds =>
      show (if ks = (ds ++ dvs).map (fun _ => false) then _ else _) = (if ks = (ds ++ dvs).map (fun _ => false) then _ else _)
      by_cases h : ks = (ds ++ dvs).map (fun _ => false)
      · rw [if_pos h, if_pos h]
        cases fn (ds ++ dvs) with
        | ret d rs => cases rs <;> rfl
        | _ => rfl
      · rw [if_neg h, if_neg h]
  | ex c n d δ => rfl
  | st => rfl
theorem a_cwb (b : Bool) : cwE δ (.ret (.bl b) []) = .ok (.bl b) δ := rfl
def tpK (δ : DEnv) : Option D → EO D
  | some (.lst ds) => .ok (.tup ds) δ
  | _ => .st
theorem a_tupV : dTupV j δ = tpK δ (look δ j) := by
  unfold dTupV
  cases look δ j with
  | none => rfl
  | some d => cases d <;> rfl
theorem a_tpK (ds : List D) : tpK δ (some (.lst ds)) = .ok (.tup ds) δ := rfl
end
end DL

set_option maxRecDepth 100000
set_option maxHeartbeats 4000000
namespace DL
open PySem PySem.Spec PyProof.Rows L2
/-! ### while and slices reckoned -/
def slE (δ : DEnv) : Option D → EO D
  | some z => .ok z δ
  | none => .st
def slK (fl fh : Option DE) : EO D → EO D
  | .ok d δ1 => (dOpt fl δ1).bind fun l δ2 => (dOpt fh δ2).bind fun h δ3 => slE δ3 (slD l h d)
  | .ex c n d δ => .ex c n d δ
  | .st => .st
def slH (l : Option Int) (d : D) : EO D → EO D
  | .ok (.int i) δ => slE δ (slD l (some i) d)
  | .ex c n d δ => .ex c n d δ
  | _ => .st
def slL (d : D) : EO D → EO D
  | .ok (.int i) δ => slE δ (slD (some i) none d)
  | .ex c n d δ => .ex c n d δ
  | _ => .st
def oI : EO D → EO (Option Int)
  | .ok (.int i) δ => .ok (some i) δ
  | .ex c n d δ => .ex c n d δ
  | _ => .st
theorem dOpt_some (f : DE) (δ : DEnv) : dOpt (some f) δ = oI (f δ) := by
  show (f δ).bind _ = _
  cases f δ with
  | ok x δ1 => cases x <;> rfl
  | ex c n d δ => rfl
  | st => rfl
section
variable (fe fa : DE) (fl fh : Option DE) (δ : DEnv) (d : D) (l : Option Int) (i : Int)
theorem a_sl : dSl fe fl fh δ = slK fl fh (fe δ) := by
  unfold dSl
  cases fe δ with
  | ok d δ1 => rfl
  | ex c n d δ => rfl
  | st => rfl
theorem a_slK0 : slK none (some fa) (.ok d δ) = slH none d (fa δ) := by
  show (dOpt (some fa) δ).bind (fun h δ3 => slE δ3 (slD none h d)) = _
  rw [dOpt_some]
  cases fa δ with
  | ok x δ1 => cases x <;> rfl
  | ex c n d δ => rfl
  | st => rfl
theorem a_slK1 : slK (some fa) none (.ok d δ) = slL d (fa δ) := by
  show (dOpt (some fa) δ).bind (fun l δ2 => slE δ2 (slD l none d)) = _
  rw [dOpt_some]
  cases fa δ with
  | ok x δ1 => cases x <;> rfl
  | ex c n d δ => rfl
  | st => rfl
theorem a_slH : slH l d (.ok (.int i) δ) = slE δ (slD l (some i) d) := rfl
theorem a_slL : slL d (.ok (.int i) δ) = slE δ (slD (some i) none d) := rfl
theorem a_slE : slE δ (some d) = .ok d δ := rfl
theorem a_slLst (lo hi : Option Int) (ds : List D) : slD lo hi (.lst ds) = some (.lst (cutL ds lo hi)) := rfl
theorem a_slTup (lo hi : Option Int) (ds : List D) : slD lo hi (.tup ds) = some (.tup (cutL ds lo hi)) := rfl
end
/-! chains of comparisons -/
def ch3 (g' : D → D → Option D) (y : D) : EO D → EO D
  | .ok z δ => oE (g' y z) δ
  | .ex c n d δ => .ex c n d δ
  | .st => .st
def ch2 (g' : D → D → Option D) (fe : DE) (y : D) (δ : DEnv) : Option D → EO D
  | some (.bl true) => ch3 g' y (fe δ)
  | some (.bl false) => .ok (.bl false) δ
  | _ => .st
def ch1 (g g' : D → D → Option D) (fe : DE) (x : D) : EO D → EO D
  | .ok y δ => ch2 g' fe y δ (g x y)
  | .ex c n d δ => .ex c n d δ
  | .st => .st
def chK (g g' : D → D → Option D) (fb fe : DE) : EO D → EO D
  | .ok x δ => ch1 g g' fe x (fb δ)
  | .ex c n d δ => .ex c n d δ
  | .st => .st
section
variable (g g' : D → D → Option D) (fa fb fe : DE) (x y z : D) (δ : DEnv)
theorem a_ch : dChain g g' fa fb fe δ = chK g g' fb fe (fa δ) := by
  unfold dChain
  cases fa δ with
  | ok x δ1 =>
    show (fb δ1).bind _ = ch1 g g' fe x (fb δ1)
    cases fb δ1 with
    | ok y δ2 =>
      show (match g x y with | some (.bl true) => (fe δ2).bind fun z δ3 => (match g' y z with | some w => EO.ok w δ3 | none => .st) | some (.bl false) => EO.ok (.bl false) δ2 | _ => .st) = ch2 g' fe y δ2 (g x y)
      cases g x y with
      | none => rfl
      | some d =>
        cases d with
        | bl b =>
          cases b with
          | false => rfl
          | true =>
            show (fe δ2).bind _ = ch3 g' y (fe δ2)
            cases fe δ2 with
            | ok z δ3 =>
              show (match g' y z with | some w => EO.ok w δ3 | none => .st) = oE (g' y z) δ3
              cases g' y z <;> rfl
            | ex c n d δ => rfl
            | st => rfl
        | _ => rfl
    | ex c n d δ => rfl
    | st => rfl
  | ex c n d δ => rfl
  | st => rfl
theorem a_chK : chK g g' fb fe (.ok x δ) = ch1 g g' fe x (fb δ) := rfl
theorem a_ch1 : ch1 g g' fe x (.ok y δ) = ch2 g' fe y δ (g x y) := rfl
theorem a_ch2 : ch2 g' fe y δ (some (.bl true)) = ch3 g' y (fe δ) := rfl
theorem a_ch2' : ch2 g' fe y δ (some (.bl false)) = .ok (.bl false) δ := rfl
theorem a_ch3 : ch3 g' y (.ok z δ) = oE (g' y z) δ := rfl
end
theorem cutL_take {α : Type} (ds : List α) (i : Nat) (h : i ≤ ds.length) : cutL ds none (some (i : Int)) = ds.take i := by
  have e1 : HT.sIx ds.length 0 none = 0 := rfl
  have e2 : HT.sIx ds.length ds.length (some (i : Int)) = i := by
    show (if ((i : Nat) : Int) < 0 then (((i : Nat) : Int) + (ds.length : Int)).toNat else min ((i : Nat) : Int).toNat ds.length) = _
    rw [if_neg (by omega), Int.toNat_natCast]; omega
  unfold cutL
  rw [e1, e2, List.drop_zero, Nat.sub_zero]
theorem cutL_drop {α : Type} (ds : List α) (i : Nat) (h : i ≤ ds.length) : cutL ds (some (i : Int)) none = ds.drop i := by
  have e1 : HT.sIx ds.length ds.length none = ds.length := rfl
  have e2 : HT.sIx ds.length 0 (some (i : Int)) = i := by
    show (if ((i : Nat) : Int) < 0 then (((i : Nat) : Int) + (ds.length : Int)).toNat else min ((i : Nat) : Int).toNat ds.length) = _
    rw [if_neg (by omega), Int.toNat_natCast]; omega
  unfold cutL
  rw [e1, e2]
  exact List.take_of_length_le (by rw [List.length_drop]; omega)
theorem cutL_init {α : Type} (ds : List α) : cutL ds none (some (-1)) = ds.take (ds.length - 1) := by
  have e1 : HT.sIx ds.length 0 none = 0 := rfl
  have e2 : HT.sIx ds.length ds.length (some (-1)) = ds.length - 1 := by
    show (if (-1 : Int) < 0 then (-1 + (ds.length : Int)).toNat else min (-1 : Int).toNat ds.length) = _
    rw [if_pos (by decide)]; omega
  unfold cutL
  rw [e1, e2, List.drop_zero, Nat.sub_zero]
end DL

set_option maxRecDepth 100000
set_option maxHeartbeats 4000000
namespace DL
open PySem PySem.Spec PyProof.Rows L2
/-! ### sum of whole numbers -/
section
variable {c : Cf} {X : Cx} {e : Expr} {es : List Expr} {fs : DA} {p pos : Pos}
end
end DL

set_option maxRecDepth 100000
set_option maxHeartbeats 4000000
namespace DL
open PySem PySem.Spec PyProof.Rows L2
/-! ### try .. except C as e, of a body that does not raise -/
section
variable {c : Cf} {X : Cx} {pos np pos' : Pos}
end
end DL

set_option maxRecDepth 100000
set_option maxHeartbeats 4000000
namespace DL
open PySem PySem.Spec PyProof.Rows L2
/-! ### what a source of items gives tuple(..) -/
theorem iadd_eq (a b : Value) : Builtin.«list.__iadd__» { pos := [a, b] } = Builtin.List.listExtendWith a b a := rfl
def ColR (s : Shared) (n : Nat) (P : Nat → Value → Prop) : Result → Shared → Prop := fun x s' => ∃ (h' : Heap) (tk : Nat) (acc : Array Value) (c' : Nat), x = Except.ok (Flow.ret (.ref s.heap.objs.size)) ∧ s' = { heap := h', gens := s.gens, drawn := s.drawn, toks := tk, os := s.os } ∧
  h'.get? s.heap.objs.size = some { cls := Value.type "list", data := Data.seq acc c' } ∧ (∀ (b : Addr) (o : Obj), s.heap.get? b = some o → h'.get? b = some o) ∧ ItemsOf P acc n
theorem collect_src {prog : Program} {w : World} {A : Around} {E : Value → Shared → Prop} {s : Shared} {T : String} {r d : Addr} {n : Nat} {P : Nat → Value → Prop} {OK : Heap → Prop} {Q : List Value → Shared → Prop}
    (S : PySem.W.KdlSrc prog w T r d n P OK) (hh : A.handled = none) (ok : OK s.heap) (hn : n ≤ sizeLine)
    (h : ∀ (h' : Heap) (tk : Nat) (acc : Array Value), (∀ (b : Addr) (o : Obj), s.heap.get? b = some o → h'.get? b = some o) → s.heap.objs.size < h'.objs.size → ItemsOf P acc n → Q acc.toList { heap := h', gens := s.gens, drawn := s.drawn, toks := tk, os := s.os }) :
    wpAny (model prog w) A (collect (.ref r)) Q E s := by
  have lt : ∀ {b : Addr} {o : Obj}, s.heap.get? b = some o → b < s.heap.objs.size := fun e => Heap.lt_size e
  have ok2 : OK (s.heap.push { cls := Value.type "list", data := Data.seq #[] }) := S.keep _ _ ok fun b _ o e => Heap.get?_push_of_some _ e
  obtain ⟨hr, hd⟩ := S.there _ ok
  have core : codeAny (model prog w) A (Code.builtin "proto.collect" { pos := [.ref r] }) (ColR s n P) s := by
    refine codeAny_builtin F.entry_proto_collect ?_
    rw [Around.under_plainId F.plain_proto_collect]
    show wpAny (model prog w) A.in1 (do let x ← newList []; again (Code.builtin "list.__iadd__" { pos := [x, .ref r] })) _ _ s
    refine wpAny_bind ?_
    unfold newList
    refine wpAny_newObj_type ?_
    refine wpAny_pure ⟨plainId_quiet F.plain_list_iadd _, codeAny_builtin F.entry_list_iadd ?_⟩
    rw [Around.under_plainId F.plain_list_iadd, iadd_eq]
    exact PySem.W.kdl_extend (R := ColR s n P) (s := { heap := s.heap.push { cls := Value.type "list", data := Data.seq #[] }, gens := s.gens, drawn := s.drawn, toks := s.toks, os := s.os }) S hh ok2 s.heap.objs.size (Nat.ne_of_gt hr) (Nat.ne_of_gt hd) _ 0 (Heap.get?_push_size _ rfl) (fun h' tk acc' c' k1 k2 it => ⟨h', tk, acc', c', rfl, rfl, k2, fun b o e => k1 b o (Nat.ne_of_lt (lt e)) (Heap.get?_push_of_some _ e), it⟩) hn
  unfold collect
  refine wpAny_bind (wpAny_runValue (codeAny_mono core ?_))
  rintro x s' ⟨h', tk, acc, c', rfl, rfl, k2, k1, it⟩
  refine wpAny_bind (wpAny_load k2 ?_)
  exact wpAny_pure (h h' tk acc k1 (Heap.lt_size k2) it)
theorem code_tuple_src {prog : Program} {w : World} {A : Around} {E : Value → Shared → Prop} {s : Shared} {T : String} {r d : Addr} {n : Nat} {P : Nat → Value → Prop} {OK : Heap → Prop} {Q₁ : Value → Shared → Prop}
    (S : PySem.W.KdlSrc prog w T r d n P OK) (hh : A.handled = none) (ok : OK s.heap) (hn : n ≤ sizeLine)
    (h : ∀ (h' : Heap) (tk : Nat) (acc : Array Value), (∀ (b : Addr) (o : Obj), s.heap.get? b = some o → h'.get? b = some o) → s.heap.objs.size < h'.objs.size → ItemsOf P acc n →
      Q₁ (.ref h'.objs.size) { heap := h'.push { cls := Value.type "tuple", data := Data.seq acc }, gens := s.gens, drawn := s.drawn, toks := tk, os := s.os }) :
    codeAny (model prog w) A (Code.call (Value.builtin "tuple.__new__") { pos := [Value.type "tuple", Value.ref r] }) (wants Q₁ E) s := by
  refine codeAny_of_tree ?_
  refine wpAny_bind (wpAny_of_eq (F.newCall_tuple_1 (Value.ref r)) ?_)
  refine wpAny_pure ⟨plainId_quiet F.plain_tuple_new _, codeAny_builtin F.entry_tuple_new ?_⟩
  rw [Around.under_plainId F.plain_tuple_new]
  have hT := S.type s ok
  refine wpAny_bind (wpAny_pure ?_)
  refine wpAny_ite_false rfl ?_
  refine wpAny_bind (wpAny_of_eq sub_tuple_self ?_)
  refine wpAny_ite_false rfl ?_
  refine wpAny_ite_false rfl ?_
  refine wpAny_bind (wpAny_of_eq madeHere_tuple ?_)
  refine wpAny_bind (wpAny_of_eq init_tuple_lookup ?_)
  refine wpAny_ite_true rfl ?_
  refine wpAny_bind (wpAny_ite_true rfl (wpAny_pure ?_))
  refine wpAny_bind (wpAny_of_eq (show checkCount "tuple" 0 1 [Value.ref r].length = pure () from rfl) ?_)
  refine wpAny_ite_true rfl ?_
  refine wpAny_bind (wpAny_bind (wpAny_typeOf hT (wpAny_pure ?_)))
  refine wpAny_ite_false (by rw [S.notTuple]; rfl) ?_
  refine wpAny_bind (collect_src S hh ok hn fun h' tk acc hk sz0 it => ?_)
  refine wpAny_bind (wpAny_pure ?_)
  rw [Array.toArray_toList]
  have sz : sizeOk (Data.seq acc) := by
    have := it.1
    show acc.size ≤ sizeLine
    omega
  refine wpAny_bind (wpAny_newObj_type ?_ sz)
  exact wpAny_pure (h h' tk acc hk sz0 it)
theorem call_tuple_src {prog : Program} {w : World} {A : Around} {E : Value → Shared → Prop} {s : Shared} {T : String} {r d : Addr} {n : Nat} {P : Nat → Value → Prop} {OK : Heap → Prop} {Q : Value → Shared → Prop}
    (S : PySem.W.KdlSrc prog w T r d n P OK) (hh : A.handled = none) (ok : OK s.heap) (hn : n ≤ sizeLine)
    (h : ∀ (h' : Heap) (tk : Nat) (acc : Array Value), (∀ (b : Addr) (o : Obj), s.heap.get? b = some o → h'.get? b = some o) → s.heap.objs.size < h'.objs.size → ItemsOf P acc n →
      Q (.ref h'.objs.size) { heap := h'.push { cls := Value.type "tuple", data := Data.seq acc }, gens := s.gens, drawn := s.drawn, toks := tk, os := s.os }) :
    wpAny (model prog w) A (call (Value.type "tuple") [.ref r]) Q E s := by
  refine callType_codes (Q₁ := fun obj s1 => ∃ (h' : Heap) (acc : Array Value) (tk : Nat), obj = .ref h'.objs.size ∧ s1 = { heap := h'.push { cls := Value.type "tuple", data := Data.seq acc }, gens := s.gens, drawn := s.drawn, toks := tk, os := s.os } ∧ Q obj s1) F.called_tuple (F.typeCall_tuple_1 _) F.entry_object_init (code_tuple_src S hh ok hn fun h' tk acc hk sz0 it => ⟨h', acc, tk, rfl, rfl, h h' tk acc hk sz0 it⟩) ?_
  rintro obj s1 ⟨h', acc, tk, rfl, rfl, q⟩
  have hT : Shared.TypeIs { heap := h'.push { cls := Value.type "tuple", data := Data.seq acc }, gens := s.gens, drawn := s.drawn, toks := tk, os := s.os } (.ref h'.objs.size) "tuple" := ⟨_, Heap.get?_push_size _ rfl, rfl⟩
  refine ⟨hT, F.args_object_init_2 _ _, ?_⟩
  exact object_init_meets (Slot.lookup F.called_tuple.init) F.called_tuple.made (by decide) prog w A.in1 _ _ ⟨hT, rfl, q⟩
/-! ### tuple(d) of a dict that stays one's own -/
end DL

set_option maxRecDepth 100000
set_option maxHeartbeats 4000000
namespace DL
open PySem PySem.Spec PyProof.Rows L2
/-! ### tuple(d), tuple(d.values()) of a name -/
theorem look_dct {K : PySem.W.Frag} {cl : Cw} {hx : Addr × Option Addr} {R : List (Nat × Addr)} {H0 G0 H G : Hp} {σ : L2.St} {δ : DEnv} (k : Ok K cl hx R H0 G0 H G σ δ) {j : Nat} {ks : List Key} {vs : List D} (e : look δ j = some (.dct ks vs)) :
    ∃ a xs, σ[j]? = some (some (.ref a)) ∧ H a = some (.dK (ks.zip xs)) ∧ ks.length = xs.length ∧ RepL K cl G xs vs := by
  obtain ⟨v, ev, w⟩ := look_ok k e
  rcases w with w | ⟨a, rfl, w⟩
  · cases w with
    | dct h1 h2 h3 => exact ⟨_, _, ev, k.sub _ _ h1, h2, h3⟩
  · obtain ⟨xs, h1, h2, h3⟩ := w
    exact ⟨a, xs, ev, h1, h2, h3⟩
section
variable {c : Cf} {X : Cx} {e : Expr} {te : TE} {p apos cpos pos : Pos} {j : Nat}
end
/-! ### reckoning -/
end DL

set_option maxRecDepth 100000
set_option maxHeartbeats 4000000
namespace DL
open PySem PySem.Spec PyProof.Rows L2
section
variable {c : Cf} {X : Cx} {x : Str} {p pos : Pos} {a o : Expr} {fa : DE} {j : Nat}
/-! ### a global text -/
/-! ### x in d of a dict that stays one's own -/
def keyO : D → Option Key
  | .int i => some (.inl i)
  | .str s => some (.inr s)
  | _ => none
theorem key_rep {K : PySem.W.Frag} {cl : Cw} {G : Hp} {v : V} {d : D} {k : Key} (h : keyO d = some k) (r : Rep K cl G v d) : v = kV k := by
  cases r with
  | int i => cases h; rfl
  | str s => cases h; rfl
  | _ => cases h
end
/-! ### reckoning -/
end DL

set_option maxRecDepth 100000
set_option maxHeartbeats 4000000
namespace DL
open PySem PySem.Spec PyProof.Rows L2
/-! ### a sign in a text -/
section
variable {c : Cf} {X : Cx}
end
end DL

set_option maxRecDepth 100000
set_option maxHeartbeats 4000000
namespace DL
open PySem PySem.Spec PyProof.Rows L2
/-! ### [elt for a in as for b in bs] -/
section
variable {K : PySem.W.Frag} {cl : Cw} {hx : Addr × Option Addr} {R : List (Nat × Addr)} {H0 G0 H G H' G' : Hp} {σ : L2.St} {δ : DEnv} {vs : List Nat}
theorem Ok.slD (k : Ok K cl hx R H0 G0 H G σ δ) {p : Addr} {u : HO} (h0 : H0 p = some u) (hR : ∀ q ∈ R, q.2 ≠ p) {j : Nat} {t : Sl} (e : δ[j]? = some t) (o : isO t = true) : σ[j]? ≠ some (some (.ref p)) := fun z => by
  cases t with
  | own d =>
    obtain ⟨a, q, _, h, _⟩ := k.sl j _ _ e z
    cases q
    rw [h0] at h; cases h
  | rf d =>
    obtain ⟨q, hq, rfl⟩ := k.rfs j d e
    obtain ⟨d', _, e2⟩ := k.refs q hq
    rw [z] at e2
    cases e2
    exact hR q hq rfl
  | un => cases o
  | val d => cases o
  | exc c ns ds => cases o
theorem Ok.gD (k : Ok K cl hx R H0 G0 H G σ δ) {p : Addr} {u : HO} (h0 : H0 p = some u) (g0 : G0 p = none) : G p = none := by
  cases e : G p with
  | none => rfl
  | some v =>
    rcases k.new p v e with z | z
    · rw [g0] at z; cases z
    · rw [h0] at z; cases z
theorem Ok.swap (k : Ok K cl hx R H0 G0 H G σ δ) {p : Addr} {o u : HO} (h0 : H0 p = some u) (g0 : G0 p = none) (hR : ∀ q ∈ R, q.2 ≠ p) : Ok K cl hx R (upd H0 p o) G0 (upd H p o) G σ δ := by
  have gp := k.gD h0 g0
  have hn : ∀ {b : Addr}, H0 b = none → b ≠ p := fun {b} e z => by rw [z, h0] at e; cases e
  refine ⟨k.len, fun b v e => by rw [upd_ne (ne_of_none e gp)]; exact k.sub b v e, k.ext, fun b v e => ?_, fun b v e hb => ?_, fun q hq => ?_, fun i s x e1 e2 => ?_, k.sep, k.refs, k.rfs⟩
  · rcases k.new b v e with z | z
    · exact .inl z
    · exact .inr (by rw [upd_ne (hn z)]; exact z)
  · by_cases h : b = p
    · subst h; rw [upd_same] at e ⊢; exact e
    · rw [upd_ne h] at e ⊢; exact k.kept b v e hb
  · rw [upd_ne (hR q hq)]; exact k.rfree q hq
  · have q := k.sl i s x e1 e2
    have ne : ∀ b, x = some (.ref b) → isO s = true → b ≠ p := fun b hb hO z => by
      subst z; subst hb
      exact k.slD h0 hR e1 hO e2
    cases s with
    | un => trivial
    | val d => exact q
    | own d => obtain ⟨b, q1, q2, q3, q4⟩ := q; exact ⟨b, q1, q2, by rw [upd_ne (hn q3)]; exact q3, q4.mono (.refl G) fun o z => by rw [upd_ne (ne b q1 rfl)]; exact z⟩
    | rf d => obtain ⟨b, q1, q2, q4⟩ := q; exact ⟨b, q1, q2, q4.mono (.refl G) fun o z => by rw [upd_ne (ne b q1 rfl)]; exact z⟩
    | exc c ns ds => exact q
end
section
variable {c : Cf} {X : Cx} {tg tg1 e : Expr} {pos : Pos}
end
/-! ### divmod -/
section
variable {c : Cf} {X : Cx} {e : Expr} {es : List Expr} {fs : DA} {p pos : Pos}
end
end DL

set_option maxRecDepth 100000
set_option maxHeartbeats 4000000
namespace DL
open PySem PySem.Spec PyProof.Rows L2
/-! ### sorted(set(l)), l a list of ints -/
section
variable {P : Program} {w : World} {A : Around} {E : Value → Shared → Prop} {s : Shared}
end
/-! ### over the layer -/
section
variable {X : Cx}
end
section
variable {c : Cf} {X : Cx} {e : Expr} {es : List Expr} {fs : DA} {p p2 pos pos2 : Pos}
end
end DL

set_option maxRecDepth 100000
set_option maxHeartbeats 4000000
namespace DL
open PySem PySem.Spec PyProof.Rows L2
/-! ### y = [elt for a in as for b in bs] -/
section
variable {c : Cf} {X : Cx} {tg tg1 : Expr} {pos spos py : Pos} {elt iter iter1 : Expr} {scope : Scope} {own : List (Str × Nat)} {vs1 ts ts1 : List Nat} {it it1 : DI} {A A1 : D → DEnv → Option DEnv} {el : DE} {i : Nat} {y : Str}
end
end DL

set_option maxRecDepth 100000
set_option maxHeartbeats 4000000
namespace DL
open PySem PySem.Spec PyProof.Rows L2
/-! ### own classes told from one another and from the built-in types -/
structure InK (K : PySem.W.Frag) (C : Addr) : Prop where
  cl : Cls K C
  ha : PySem.W.findIn K (.ref C) "__class__" = some (some (.builtin "object.__class__"))
  hn : PySem.W.specialIn K (.builtin "object.__class__") "__get__" = some (some (.builtin "getset_descriptor.__get__"))
  htk : PySem.W.takesIn K (.builtin "object.__class__") = some true
  hm : PySem.W.mroIn K C (.type "object") = some true
/-- the class named cn among the classes cs -/
structure IsC (K : PySem.W.Frag) (cl : Cw) (cn : Str) (cs : List Str) : Prop where
  of : ∀ C, cl cn = some C → ∀ t ∈ tyNames, PySem.W.kitOne K (.type t) (.ref C) = some false ∧ PySem.W.notFirst K C (.type t) = true
  ow : ∀ C, cl cn = some C → ∀ c' ∈ cs, ∀ C', cl c' = some C' → InK K C' ∧ PySem.W.kitOne K (.ref C') (.ref C) = some (decide (c' = cn)) ∧ PySem.W.notFirst K C (.ref C') = true
/-! ### isinstance of an own class -/
def isO1 (cn : Str) (cs : List Str) (d : D) : Option Bool := match tyD d with
  | some _ => some false
  | none => match d with
    | .ins c' _ _ => if cs.contains c' then some (decide (c' = cn)) else none
    | _ => none
def dIsO (cn : Str) (cs : List Str) (fe : DE) : DE := fun δ => (fe δ).bind fun d δ1 => match isO1 cn cs d with
  | some b => .ok (.bl b) δ1
  | none => .st
section
variable {c : Cf} {X : Cx} {e : Expr} {fe : DE} {p pos pt : Pos} {cn : Str} {cs : List Str}
end
/-! ### == by an own class -/
section
variable {c : Cf} {X : Cx} {k : Nat} {cn : Str} {cs : List Str} {fn : List D → FO}
end
/-! ### reckoning -/
theorem a_isO (cn : Str) (cs : List Str) (fe : DE) (δ : DEnv) : dIsO cn cs fe δ = unK (fun d => (isO1 cn cs d).map D.bl) (fe δ) := by
  unfold dIsO
  cases fe δ with
  | ok d δ1 =>
    show (match isO1 cn cs d with | some b => EO.ok (D.bl b) δ1 | none => .st) = _
    rw [a_unK_0]
    cases isO1 cn cs d <;> rfl
  | ex c ns ds δ1 => rfl
  | st => rfl
end DL

set_option maxRecDepth 100000
set_option maxHeartbeats 4000000
namespace DL
open PySem PySem.Spec PyProof.Rows L2
/-! ### != by an own class that has == alone -/
section
open PySem.W
variable {prog : Program} {w : World} {A : Around} {E : Value → Shared → Prop} {s : Shared} {K : PySem.W.Frag} {x C L f : Addr} {h₀ : Heap} {m : Str → Option Value} {ox : Obj} {od : Option Obj} {b tb : Value}
end
/-! ### over the layer -/
section
variable {c : Cf} {X : Cx} {k : Nat} {cn : Str} {cs : List Str} {fn : List D → FO}
end
end DL

set_option maxRecDepth 100000
set_option maxHeartbeats 4000000
namespace DL
open PySem PySem.Spec PyProof.Rows L2
/-! ### sorted(l), l a list of lists of ints -/
section
variable {X : Cx}
end
section
variable {K : PySem.W.Frag} {cl : Cw}
theorem repL_zip : ∀ {vs : List V} {ds : List D} {G : Hp}, RepL K cl G vs ds → ∀ p ∈ vs.zip ds, Rep K cl G p.1 p.2
  | _, _, _, .nil, p, hp => by cases hp
  | _, _, _, .cons h t, p, hp => by
    rcases List.mem_cons.mp hp with rfl | hp
    · exact h
    · exact repL_zip t p hp
end
section
variable {c : Cf} {X : Cx} {e : Expr} {es : List Expr} {fs : DA} {p pos : Pos}
end
end DL

set_option maxRecDepth 100000
set_option maxHeartbeats 4000000
namespace DL
open PySem PySem.Spec PyProof.Rows L2
/-! ### an own exception class whose __init__ keeps its arguments as fields -/
def oexB (K : PySem.W.Frag) (C : Addr) : Bool := (match K.lookup C with
  | some ⟨.type "type", _, .cls cd, sl⟩ => (match cd.mro, sl.toList with
    | .ref C' :: bm, [_, _, _, _, some (.builtin n), _] => decide (C' = C) && (decide (n = "ValueError.__new__") && (!cd.hasDel && (cd.hasDict && PySem.HandSPX.refsVE bm)))
    | _, _ => false)
  | _ => false) && (He.eqO (PySem.W.findIn K (.ref C) "__setattr__") (some (some (.builtin "object.__setattr__"))) && (decide (PySem.W.subIn K (.ref C) (.type "BaseException") = some true) && (decide (PySem.W.typeIn K (.ref C) = some (.type "type")) && PySem.W.keepIn K (.ref C))))
theorem oexB_ok {K : PySem.W.Frag} {C : Addr} (h : oexB K C = true) : OexC K C := by
  obtain ⟨h1, h⟩ := He.ba h
  obtain ⟨h2, h⟩ := He.ba h
  obtain ⟨h3, h⟩ := He.ba h
  obtain ⟨h4, h5⟩ := He.ba h
  refine ⟨?_, He.eqO_ok h2, of_decide_eq_true h3, of_decide_eq_true h4, h5⟩
  split at h1
  · rename_i dd cd sl ho
    split at h1
    · rename_i C' bm k0 k1 k2 k3 n k5 hm hs
      simp only [Bool.and_eq_true, decide_eq_true_eq, Bool.not_eq_true'] at h1
      obtain ⟨rfl, rfl, hdel, hdict, hre⟩ := h1
      obtain ⟨nm, bs, mro, ns, qn, hd, sn, sub, ab, col, del⟩ := cd
      dsimp only at hm hdel hdict
      subst hm hdel hdict
      have hsl : sl = #[k0, k1, k2, k3, some (.builtin "ValueError.__new__"), k5] := by
        obtain ⟨l⟩ := sl
        simp only at hs
        rw [hs]
      subst hsl
      exact ⟨nm, qn, ns, bs, bm, sn, sub, ab, col, dd, k0, k1, k2, k3, k5, ho, hre⟩
    · cases h1
  · cases h1
/-- what the __init__ keeps -/
def spX (C : Addr) (fs : List Str) : Sp := fun vs H Q _ => ∃ a ys, vs = .ref a :: ys ∧ ys.length = fs.length ∧ H a = some (exo a C none) ∧ ∀ dx, H dx = none → dx ≠ a → Q .non (upd (upd H dx (exd dx (fs.zip ys).reverse)) a (exo a C (some dx)))
/-- an own exception class that may be raised with arguments -/
def CalX (P : Program) (w : World) (K : PySem.W.Frag) (mg : Str → Option Value) (base : Heap) (cl : Cw) (x : Str) (fs : List Str) : Prop :=
  ∃ C f fd ps, cl x = some C ∧ mg x = some (.ref C) ∧ OexC K C ∧ PySem.W.findIn K (.ref C) "__init__" = some (some (.ref f)) ∧ PySem.W.typeIn K (.ref f) = some (.type "function") ∧ FnOk P w K mg base (L2.CX P w) 1 f fd ps (spX C fs) ∧ Binds K fd ps []
section
variable {X : Cx}
theorem self_pe {i : Nat} {x : Str} {pos : Pos} (hN : X.N[i]? = some x) (hv : Vis X.env.scope x) (hd : (x == ("__debug__" : Str)) = false) (hcd : (x == ("__classdict__" : Str)) = false) : PE X (.Name x pos) (tVar i) := pe_var hN hv hd hcd
theorem pss_init1 {f x s : Str} {p1 p2 p3 p4 : Pos} {C : Addr} (T : OexC X.K C) (n1 : PySem.W.findIn X.K (.ref C) f = some none) (h0 : PE X (.Name s p1) (tVar 0)) (h1 : PE X (.Name x p3) (tVar 1))
    (hs : swapsWith (.Name x p3) (some (.Attribute (.Name s p1) f p2)) p4.line X.env = pure false) :
    ∃ t, PSs X [.Assign [.Attribute (.Name s p1) f p2] (.Name x p3) p4] t ∧ ∀ a y H (D : Ends) σ, σ[0]? = some (some (V.ref a)) → σ[1]? = some (some y) → H a = some (exo a C none) → (∀ dx, H dx = none → dx ≠ a → D.nx σ (upd (upd H dx (exd dx [(f, y)])) a (exo a C (some dx)))) → t D σ H := by
  refine ⟨_, pss_one (ps_ost h0 h1 hs), fun a y H D σ e0 e1 ea q => ?_⟩
  exact ⟨y, e1, .ref a, e0, a, C, rfl, T, n1, .inl ⟨ea, fun dx hn ne => q dx hn ne⟩⟩
end
theorem calX1 {P : Program} {w : World} {K : PySem.W.Frag} {mg : Str → Option Value} {base : Heap} {cl : Cw} {qual x0 : Str} {st : Stmt} {C fI : Addr} {fd : FuncData} {f x s : Str} {p1 p2 p3 p4 : Pos} (e1 : cl x0 = some C) (e2 : mg x0 = some (.ref C)) (T : OexC K C)
    (e3 : PySem.W.findIn K (.ref C) "__init__" = some (some (.ref fI))) (e4 : PySem.W.typeIn K (.ref fI) = some (.type "function")) (n1 : PySem.W.findIn K (.ref C) f = some none)
    (FF : FunD K "__init__" qual (defArgs st) (defBody st) (defScope st) [] [] fI fd) (S : FnScope [s, x] [s, x] (defScope st)) (hb : defBody st = [.Assign [.Attribute (.Name s p1) f p2] (.Name x p3) p4]) (b : Binds K fd [s, x] [])
    (hp : ∀ (cdv : Value) (A : Around) (outer : List Env) (s' : Shared) (H : Hp) (E : XK), let X := cxOf (L2.CX P w) P w K mg base [s, x] qual (defScope st) fI cdv A outer s' H E
      PE X (.Name s p1) (tVar 0) ∧ PE X (.Name x p3) (tVar 1) ∧ swapsWith (.Name x p3) (some (.Attribute (.Name s p1) f p2)) p4.line X.env = pure false) :
    CalX P w K mg base cl x0 [f] := by
  refine ⟨C, fI, fd, [s, x], e1, e2, T, e3, e4, FF.ok S ?_ ?_, b⟩
  · rintro vs H Q E ⟨a, ys, rfl, hl, _⟩
    show ys.length + 1 = 2
    rw [hl]; rfl
  · intro cdv A outer s' H vs Q E hr h
    obtain ⟨a, ys, rfl, hl, ea, q⟩ := h
    match ys, hl with
    | [y], _ =>
      obtain ⟨q1, q2, q3⟩ := hp cdv A outer s' H E
      obtain ⟨t, ht, h⟩ := pss_init1 (X := cxOf (L2.CX P w) P w K mg base [s, x] qual (defScope st) fI cdv A outer s' H E) (f := f) T n1 q1 q2 q3
      rw [hb]
      exact ⟨t, ht, h a y H _ _ rfl rfl ea fun dx hn ne => q dx hn ne⟩
/-! ### raise C(e, ..) -/
def sRaiseF (x : Str) (ns : List Str) (fs : DA) : DS := fun δ => match fs δ with
  | .ok as δ1 => (match avs as with
    | some ds => if ds.length = ns.length then .ex x ns ds δ1 else .st
    | none => .st)
  | .ex c n d δ1 => .ex c n d δ1
  | .st => .st
theorem lookup_mem {α : Type} : ∀ {l : List (Str × α)} {n : Str} {v : α}, (l.map (·.1)).Nodup → (n, v) ∈ l → l.lookup n = some v
  | (m, u) :: l, n, v, nd, h => by
    rw [List.map_cons, List.nodup_cons] at nd
    rw [List.lookup_cons]
    rcases List.mem_cons.mp h with e | h2
    · cases e
      rw [beq_self_eq_true]
    · have ne : (n == m) = false := by
        rw [beq_eq_false_iff_ne]
        intro z
        subst z
        exact nd.1 (List.mem_map.mpr ⟨_, h2, rfl⟩)
      rw [ne]
      exact lookup_mem nd.2 h2
section
variable {c : Cf} {X : Cx} {x : Str} {e : Expr} {es : List Expr} {fs : DA} {p p' pos : Pos} {ns : List Str}
theorem js_raiseF (T : CalX X.prog X.w X.K X.mg X.base c.cl x ns) (hr : Room 2 X.A) (tk : Takes X c.W) (ha : JA c X (e :: es) fs) (hc : X.calm = true := by rfl) (hn : ns.Nodup := by decide) (hne : ns ≠ [] := by decide) (hl : ns.length ≤ 2 := by decide) (hg : Gl X x := by rfl) (hdb : (x == ("__debug__" : Str)) = false := by decide)
    (he : starEach (e :: es) X.env = (false, eval e X.env) :: starEach es X.env := by rfl) (hpl : (backTo p' (starEach es X.env)).any (·.1) = false := by rfl) :
    JS c X (.Raise (some (.Call (.Name x p) (e :: es) [] p')) none pos) (sRaiseF x ns fs) := by
  obtain ⟨C, fI, fd, ps, e1, e2, T, iC, tI, F, b⟩ := T
  refine js_of (ps_raise hc tk (pmk_oex T iC tI F hr b .nil (fun _ _ _ _ _ _ _ z => by
    obtain ⟨_, _, _, _, _, _, _, _, _, _, _, _, z⟩ := z
    exact z.elim) hg e2 (paS X (e :: es)) hdb he hpl)) fun R H0 G0 H G σ δ D' k h => ?_
  refine ha R H0 G0 H G σ δ _ k ?_
  unfold sRaiseF at h
  cases q : fs δ with
  | st => rw [q] at h; exact h.elim
  | ex cn n d δ1 => rw [q] at h; exact fun cls dd H' G' s' k' x' => h cls dd σ H' G' s' k' x'
  | ok as δ1 =>
    rw [q] at h
    dsimp only at h
    intro vs H1 G1 s1 k1 r1
    cases q2 : avs as with
    | none => rw [q2] at h; exact h.elim
    | some ds =>
      rw [q2] at h
      dsimp only at h
      by_cases hd : ds.length = ns.length
      · rw [if_pos hd] at h
        have rl := r1.vals q2
        have len := rl.length
        refine ⟨by omega, fun a na => ⟨a, vs ++ [], rfl, by rw [List.append_nil]; omega, upd_same, fun dx hn' ne => ⟨rfl, dx, (ns.zip vs).reverse, upd_same, ?_, ?_, ?_⟩⟩⟩
        · rw [upd_ne ne, upd_same, List.append_nil]
        · rw [upd_ne ne] at hn'; exact hn'
        · rw [upd_ne ne] at hn'
          rw [List.append_nil]
          have ee : upd (del (upd (upd (upd H1 a (exo a C none)) dx (exd dx (ns.zip vs).reverse)) a (exo a C (some dx))) a) dx (.xd (ns.zip vs).reverse) = upd H1 dx (.xd (ns.zip vs).reverse) := by
            funext b
            by_cases hb : b = dx
            · subst hb; rw [upd_same, upd_same]
            · rw [upd_ne hb, upd_ne hb]
              by_cases ha' : b = a
              · subst ha'; rw [del_same, na]
              · rw [del_ne ha', upd_ne ha', upd_ne hb, upd_ne ha']
          rw [ee]
          have g := Grow.froze k1.sub hn' (.xd (ns.zip vs).reverse)
          refine h (.ref C) (some dx) σ _ _ (s1.trans g.gk) (k1.grow g) ⟨C, rfl, e1, .inr ⟨dx, _, vs, rfl, upd_same, rl.mono g.gk, by omega, ⟨fun n v hm => lookup_mem ?_ (List.mem_reverse.mpr hm), hne⟩⟩⟩
          rw [List.map_reverse, List.map_fst_zip (by omega)]
          exact (List.reverse_perm _).nodup_iff.mpr hn
      · rw [if_neg hd] at h; exact h.elim
end
/-! ### try .. except C as n -/
def noX (δ : DEnv) : Bool := δ.all fun s => match s with
  | .exc _ _ _ => false
  | _ => true
def freeS (i : Nat) (δ : DEnv) : Bool := match δ[i]? with
  | some .un => true
  | some (.val _) => true
  | some (.exc _ _ _) => true
  | _ => false
def dropX (i : Nat) (k : DEnv → SO) (δ : DEnv) : SO := if (freeS i δ && noX (δ.set i .un)) = true then k (δ.set i .un) else .st
def slX (c : Str) (ns : List Str) (ds : List D) : Sl := .exc c ns ds
section
variable {K : PySem.W.Frag} {cl : Cw} {hx hx' : Addr × Option Addr} {R : List (Nat × Addr)} {H0 G0 H G : Hp} {σ : L2.St} {δ : DEnv}
theorem noX_at (h : noX δ = true) {i : Nat} {s : Sl} (e : δ[i]? = some s) : (∀ c ns ds, s ≠ .exc c ns ds) := fun c ns ds z => by
  subst z
  have := List.all_eq_true.mp h _ (List.mem_of_getElem? e)
  cases this
theorem Ok.rehx (k : Ok K cl hx R H0 G0 H G σ δ) (h : noX δ = true) : Ok K cl hx' R H0 G0 H G σ δ := ⟨k.len, k.sub, k.ext, k.new, k.kept, k.rfree, fun i s x e1 e2 => (by
  have q := k.sl i s x e1 e2
  have n := noX_at h e1
  cases s with
  | un => trivial
  | val d => exact q
  | own d => exact q
  | rf d => exact q
  | exc c ns ds => exact absurd rfl (n c ns ds)), k.sep, k.refs, k.rfs⟩
theorem freeS_at {i : Nat} (h : freeS i δ = true) : ∃ s, δ[i]? = some s ∧ isO s = false ∧ ∀ d, s ≠ .rf d := by
  unfold freeS at h
  cases e : δ[i]? with
  | none => rw [e] at h; cases h
  | some s =>
    rw [e] at h
    cases s with
    | un => exact ⟨_, rfl, rfl, fun d z => by cases z⟩
    | val d => exact ⟨_, rfl, rfl, fun d z => by cases z⟩
    | exc c ns ds => exact ⟨_, rfl, rfl, fun d z => by cases z⟩
    | own d => cases h
    | rf d => cases h
/-- a slot let go -/
theorem Ok.drop (k : Ok K cl hx R H0 G0 H G σ δ) {i : Nat} (hf : freeS i δ = true) : Ok K cl hx R H0 G0 H G (σ.set i none) (δ.set i .un) := by
  obtain ⟨s0, e0, o0, hn⟩ := freeS_at hf
  have hi : i < δ.length := (List.getElem?_eq_some_iff.mp e0).1
  have hi2 : i < σ.length := by rw [k.len]; exact hi
  have neR : ∀ p ∈ R, p.1 ≠ i := fun p hp z => by
    obtain ⟨d, e1, _⟩ := k.refs p hp
    rw [z, e0] at e1
    cases e1
    exact hn d rfl
  refine ⟨by rw [List.length_set, List.length_set]; exact k.len, k.sub, k.ext, k.new, k.kept, k.rfree, fun j t x e1 e2 => ?_, fun j l t u a e1 e2 i1 i2 s1 s2 => ?_, fun p hp => ?_, fun j d e => ?_⟩
  · by_cases hj : j = i
    · subst hj
      rw [List.getElem?_set_self hi] at e1
      cases e1
      trivial
    · rw [List.getElem?_set_ne (Ne.symm hj)] at e1 e2
      exact k.sl j t x e1 e2
  · have hj : j ≠ i := fun z => by
      subst z
      rw [List.getElem?_set_self hi] at e1
      cases e1; cases i1
    have hl : l ≠ i := fun z => by
      subst z
      rw [List.getElem?_set_self hi] at e2
      cases e2; cases i2
    rw [List.getElem?_set_ne (Ne.symm hj)] at e1 s1
    rw [List.getElem?_set_ne (Ne.symm hl)] at e2 s2
    exact k.sep j l t u a e1 e2 i1 i2 s1 s2
  · obtain ⟨d, e1, e2⟩ := k.refs p hp
    exact ⟨d, by rw [List.getElem?_set_ne (Ne.symm (neR p hp))]; exact e1, by rw [List.getElem?_set_ne (Ne.symm (neR p hp))]; exact e2⟩
  · by_cases hj : j = i
    · subst hj
      rw [List.getElem?_set_self hi] at e
      cases e
    · rw [List.getElem?_set_ne (Ne.symm hj)] at e
      exact k.rfs j d e
theorem dropX_st {i : Nat} {kk : DEnv → SO} {δ : DEnv} (h : dropX i kk δ ≠ .st) : freeS i δ = true ∧ noX (δ.set i .un) = true ∧ dropX i kk δ = kk (δ.set i .un) := by
  unfold dropX at h ⊢
  by_cases q : (freeS i δ && noX (δ.set i .un)) = true
  · rw [if_pos q]
    obtain ⟨q1, q2⟩ := Bool.and_eq_true_iff.mp q
    exact ⟨q1, q2, rfl⟩
  · rw [if_neg q] at h; exact absurd rfl h
end
section
variable {c : Cf} {X : Cx} {pos np pos' : Pos}
theorem spost_ne {f : Fx} {W : WX} {G : Hp} {o : SO} {D' : Ends} (h : SPost f W G o D') : o ≠ .st := fun z => by rw [z] at h; exact h
end
/-! ### n.f in the suite -/
def dXf (i : Nat) (f : Str) : DE := fun δ => match δ[i]? with
  | some (.exc _ ns ds) => (match (ns.zip ds).lookup f with
    | some d => .ok d δ
    | none => .st)
  | _ => .st
theorem lookup_zip_at {α β : Type} {f : Str} {d : β} : ∀ {ns : List Str} {vs : List α} {ds : List β}, vs.length = ds.length → (ns.zip ds).lookup f = some d → ∃ v, (f, v) ∈ ns.zip vs ∧ (v, d) ∈ vs.zip ds
  | [], _, _, _, h => by cases h
  | n :: ns, [], [], _, h => by cases h
  | n :: ns, v :: vs, d' :: ds, hl, h => by
    rw [List.zip_cons_cons, List.lookup_cons] at h
    cases q : (f == n) with
    | true =>
      rw [q] at h
      cases h
      rw [beq_iff_eq] at q
      subst q
      exact ⟨v, List.mem_cons_self, List.mem_cons_self⟩
    | false =>
      rw [q] at h
      obtain ⟨u, h1, h2⟩ := lookup_zip_at (ns := ns) (vs := vs) (ds := ds) (by simpa using hl) h
      exact ⟨u, List.mem_cons_of_mem _ h1, List.mem_cons_of_mem _ h2⟩
section
variable {cl : Cw} {X : Cx} {i : Nat} {f : Str} {a : Addr} {oe : Obj} {cls : Value} {d : Option Addr} {pn : List (Addr × Obj)} {e : Expr} {pos : Pos} {W : WX}
theorem je_xf {tab : Str → Str → Option Bool} {y : Str} (T : ∀ cn A, tab cn y = some true → cl cn = some A → XfC X.K A ∧ PySem.W.findIn X.K (.ref A) f = some none) (hcl : ∃ cn A, tab cn y = some true ∧ cl cn = some A ∧ cls = .ref A) (hz : Zc cls d oe) (hf : ∃ vs, oe.data = .fields vs) (he : PE (X.suite a ((a, oe) :: pn)) e (tVar i))
    (hb : attributeBase e f X.env (eval e X.env) = eval e X.env := by rfl) : JE ⟨W, cl, (a, d)⟩ (X.suite a ((a, oe) :: pn)) (.Attribute e f pos) (dXf i f) := by
  obtain ⟨cn, C, t1, t2, rfl⟩ := hcl
  obtain ⟨T1, T2⟩ := T cn C t1 t2
  refine je_of (pe_xf T1 T2 hz hf he hb) fun R H0 G0 H G σ δ Q k h => ?_
  unfold dXf at h
  cases q : δ[i]? with
  | none => rw [q] at h; exact h.elim
  | some s =>
    rw [q] at h
    cases s with
    | exc cn ns ds =>
      dsimp only at h
      obtain ⟨x, ex, hs⟩ := k.at q
      obtain ⟨rfl, hs⟩ := hs
      cases q2 : (ns.zip ds).lookup f with
      | none => rw [q2] at h; exact h.elim
      | some y =>
        rw [q2] at h
        rcases hs with ⟨rfl, _⟩ | ⟨dd, xs, vs, e1, e2, e3, e4, e5⟩
        · cases q2
        obtain ⟨v, m1, m2⟩ := lookup_zip_at (vs := vs) e3.length q2
        have e1 : d = some dd := e1
        refine ⟨.ref a, ex, rfl, rfl, dd, xs, v, e1, k.sub _ _ e2, e5.1 f v m1, h v H G (.refl G) k (repL_zip e3 (v, y) m2)⟩
    | _ => exact h.elim
end
end DL

set_option maxRecDepth 100000
set_option maxHeartbeats 4000000
namespace DL
open PySem PySem.Spec PyProof.Rows L2
/-! ### range(n) as a value, range(a, b, -1) walked -/
section
variable {X : Cx}
end
section
variable {K : PySem.W.Frag} {cl : Cw}
end
section
variable {c : Cf} {X : Cx} {e : Expr} {es : List Expr} {fs : DA} {p pos : Pos}
end
/-! ### range(a, b, -1) -/
def rngDn (i j : Int) : List D := (List.range (i - j).toNat).map fun k => D.int (i - (k : Nat))
def dRgDn (fs : DA) : DI := fun δ => (fs δ).bind fun as δ1 => match avs as with
  | some [.int i, .int j, .int k] => if k = -1 ∧ (-(2 ^ 62) ≤ i ∧ i < 2 ^ 62 ∧ -(2 ^ 62) ≤ j ∧ j < 2 ^ 62) then .ok (rngDn i j) δ1 else .st
  | _ => .st
section
variable {c : Cf} {X : Cx} {tg : Expr} {fs : DA} {pos : Pos}
end
/-! ### reckoning -/
def xrK (x : Str) (ns : List Str) : EO (List AV) → SO
  | .ok as δ1 => (match avs as with
    | some ds => if ds.length = ns.length then .ex x ns ds δ1 else .st
    | none => .st)
  | .ex c n d δ1 => .ex c n d δ1
  | .st => .st
theorem a_raiseF (x : Str) (ns : List Str) (fs : DA) (δ : DEnv) : sRaiseF x ns fs δ = xrK x ns (fs δ) := rfl
theorem a_xr1 (x f : Str) (a : D) (δ : DEnv) : xrK x [f] (.ok [.v a] δ) = .ex x [f] [a] δ := rfl
theorem a_xr2 (x f g : Str) (a b : D) (δ : DEnv) : xrK x [f, g] (.ok [.v a, .v b] δ) = .ex x [f, g] [a, b] δ := rfl
def rdK : EO (List AV) → EO (List D)
  | .ok as δ1 => (match avs as with
    | some [.int i, .int j, .int k] => if k = -1 ∧ (-(2 ^ 62) ≤ i ∧ i < 2 ^ 62 ∧ -(2 ^ 62) ≤ j ∧ j < 2 ^ 62) then .ok (rngDn i j) δ1 else .st
    | _ => .st)
  | .ex c n d δ1 => .ex c n d δ1
  | .st => .st
theorem a_rgDn (fs : DA) (δ : DEnv) : dRgDn fs δ = rdK (fs δ) := by unfold dRgDn rdK; cases fs δ <;> rfl
def xfK (f : Str) (δ : DEnv) : Option Sl → EO D
  | some (.exc _ ns ds) => (match (ns.zip ds).lookup f with
    | some d => .ok d δ
    | none => .st)
  | _ => .st
theorem a_xf (i : Nat) (f : Str) (δ : DEnv) : dXf i f δ = xfK f δ δ[i]? := by unfold dXf xfK; cases δ[i]? with | none => rfl | some s => cases s <;> rfl
theorem tab_mem {l : List (Str × Str × Bool)} {a b : Str} {r : Bool} (h : tabOf l a b = some r) : (a, b, r) ∈ l := by
  unfold tabOf at h
  rw [Option.map_eq_some_iff] at h
  obtain ⟨p, e1, rfl⟩ := h
  have hm := List.mem_of_find?_eq_some e1
  have hp := List.find?_some e1
  simp only [Bool.and_eq_true, decide_eq_true_eq] at hp
  obtain ⟨p1, p2, p3⟩ := p
  obtain ⟨rfl, rfl⟩ := hp
  exact hm
section
variable {c : Cf} {X : Cx}
end
def xinB (K : PySem.W.Frag) (C : Addr) : Bool := He.eqO (PySem.W.findIn K (.ref C) "__init__") (some (some (.ref (He.ma K C "__init__"))))
theorem xin_ok {K : PySem.W.Frag} {C : Addr} (h : xinB K C = true) : PySem.W.findIn K (.ref C) "__init__" = some (some (.ref (He.ma K C "__init__"))) := He.eqO_ok h
def xtyB (K : PySem.W.Frag) (C : Addr) : Bool := decide (PySem.W.typeIn K (.ref (He.ma K C "__init__")) = some (.type "function"))
theorem xty_ok {K : PySem.W.Frag} {C : Addr} (h : xtyB K C = true) : PySem.W.typeIn K (.ref (He.ma K C "__init__")) = some (.type "function") := of_decide_eq_true h
end DL

set_option maxRecDepth 100000
set_option maxHeartbeats 4000000
namespace DL
open PySem PySem.Spec PyProof.Rows L2
/-! ### sorted(d), list(d) of a dict of one's own -/
section
variable {P : Program} {w : World} {A : Around} {E : Value → Shared → Prop} {s : Shared}
end
section
variable {X : Cx}
end
def keysI : List Key → Option (List Int)
  | [] => some []
  | .inl i :: r => (keysI r).map (i :: ·)
  | .inr _ :: _ => none
def dSortK (j : Nat) : DE := fun δ => match look δ j with
  | some (.dct ks _) => (match keysI ks with
    | some ns => .ok (.lst ((sortI ns).map D.int)) δ
    | none => .st)
  | _ => .st
def dListK (j : Nat) : DE := fun δ => match look δ j with
  | some (.dct ks _) => .ok (.lst (ks.map keyD)) δ
  | _ => .st
section
variable {c : Cf} {X : Cx} {e : Expr} {te : TE} {p pos : Pos} {j : Nat}
end
def skK (δ : DEnv) : Option D → EO D
  | some (.dct ks _) => (match keysI ks with
    | some ns => .ok (.lst ((sortI ns).map D.int)) δ
    | none => .st)
  | _ => .st
def lsK (δ : DEnv) : Option D → EO D
  | some (.dct ks _) => .ok (.lst (ks.map keyD)) δ
  | _ => .st
theorem a_sortK (j : Nat) (δ : DEnv) : dSortK j δ = skK δ (look δ j) := by
  unfold dSortK skK
  cases look δ j with
  | none => rfl
  | some d => cases d <;> rfl
theorem a_listK (j : Nat) (δ : DEnv) : dListK j δ = lsK δ (look δ j) := by
  unfold dListK lsK
  cases look δ j with
  | none => rfl
  | some d => cases d <;> rfl
theorem a_lsK (δ : DEnv) (ks : List Key) (vs : List D) : lsK δ (some (.dct ks vs)) = .ok (.lst (ks.map keyD)) δ := rfl
end DL

set_option maxRecDepth 100000
set_option maxHeartbeats 4000000
namespace DL
open PySem PySem.Spec PyProof.Rows L2
/-! ### t.index(x), t a tuple that has no dict of its own -/
section
variable {c : Cf} {X : Cx} {o e : Expr} {to te : TE} {apos cpos : Pos} {fo fe : DE}
end
def txtsD : List D → Option (List Str)
  | [] => some []
  | .str x :: r => (txtsD r).map (x :: ·)
  | _ :: _ => none
def idxS (z : Str) : List Str → Option Nat
  | [] => none
  | y :: r => if y = z then some 0 else (idxS z r).map (· + 1)
def dTix (fo fe : DE) : DE := fun δ => (fo δ).bind fun x δ1 => match x with
  | .tpn ds => (fe δ1).bind fun y δ2 => (match y with
    | .str z => (match (txtsD ds).bind (idxS z) with
      | some j => .ok (.int (j : Nat)) δ2
      | none => .st)
    | _ => .st)
  | _ => .st
section
variable {c : Cf} {X : Cx} {o e : Expr} {apos cpos : Pos} {fo fe : DE}
end
def tixK (fe : DE) : EO D → EO D
  | .ok x δ1 => (match x with
    | .tpn ds => (fe δ1).bind fun y δ2 => (match y with
      | .str z => (match (txtsD ds).bind (idxS z) with
        | some j => .ok (.int (j : Nat)) δ2
        | none => .st)
      | _ => .st)
    | _ => .st)
  | .ex c n d δ => .ex c n d δ
  | .st => .st
def tixK2 (ds : List D) : EO D → EO D
  | .ok (.str z) δ2 => (match (txtsD ds).bind (idxS z) with
    | some j => .ok (.int (j : Nat)) δ2
    | none => .st)
  | .ok _ _ => .st
  | .ex c n d δ => .ex c n d δ
  | .st => .st
theorem a_tix (fo fe : DE) (δ : DEnv) : dTix fo fe δ = tixK fe (fo δ) := by unfold dTix tixK; cases fo δ <;> rfl
theorem a_tixK (fe : DE) (ds : List D) (δ : DEnv) : tixK fe (.ok (.tpn ds) δ) = tixK2 ds (fe δ) := by
  show ((fe δ).bind _) = _
  unfold tixK2
  cases fe δ with
  | ok y δ2 => cases y <;> rfl
  | ex c n d δ => rfl
  | st => rfl
end DL

set_option maxRecDepth 100000
set_option maxHeartbeats 4000000
namespace DL
open PySem PySem.Spec PyProof.Rows L2
/-! ### isinstance(n, C) in the suite of except .. as n, n without fields -/
def dIsX (i : Nat) : DE := fun δ => match δ[i]? with
  | some (.exc _ [] _) => .ok (.bl true) δ
  | _ => .st
section
variable {cl : Cw} {X : Cx} {i : Nat} {a : Addr} {oe : Obj} {cls : Value} {d : Option Addr} {pn : List (Addr × Obj)} {e : Expr} {p pos pt : Pos} {W : WX} {b : Str}
end
def isxK (δ : DEnv) : Option Sl → EO D
  | some (.exc _ [] _) => .ok (.bl true) δ
  | _ => .st
theorem a_isX (i : Nat) (δ : DEnv) : dIsX i δ = isxK δ δ[i]? := by
  unfold dIsX isxK
  cases δ[i]? with
  | none => rfl
  | some s =>
    cases s with
    | exc c ns ds => cases ns <;> rfl
    | _ => rfl
theorem a_isxK (c : Str) (ds : List D) (δ : DEnv) : isxK δ (some (.exc c [] ds)) = .ok (.bl true) δ := rfl
end DL

set_option maxRecDepth 100000
set_option maxHeartbeats 4000000
namespace DL
open PySem PySem.Spec PyProof.Rows L2
/-! ### x in l, l[lo:hi] of a list of one's own that stays one's own -/
def dBinV (g : D → D → Option D) (fa : DE) (j : Nat) : DE := fun δ => (fa δ).bind fun x δ1 => match look δ1 j with
  | some (.lst ds) => (match g x (.lst ds) with
    | some (.bl b) => .ok (.bl b) δ1
    | _ => .st)
  | _ => .st
section
variable {c : Cf} {X : Cx} {a o : Expr} {fa : DE} {pos : Pos} {j : Nat}
end
def bvK (g : D → D → Option D) (j : Nat) : EO D → EO D
  | .ok x δ1 => (match look δ1 j with
    | some (.lst ds) => (match g x (.lst ds) with
      | some (.bl b) => .ok (.bl b) δ1
      | _ => .st)
    | _ => .st)
  | .ex c n d δ => .ex c n d δ
  | .st => .st
theorem a_binV (g : D → D → Option D) (fa : DE) (j : Nat) (δ : DEnv) : dBinV g fa j δ = bvK g j (fa δ) := by unfold dBinV bvK; cases fa δ <;> rfl
end DL

set_option maxRecDepth 100000
set_option maxHeartbeats 4000000
namespace DL
open PySem PySem.Spec PyProof.Rows L2
/-! ### sorted(t), t a tuple of texts -/
section
variable {X : Cx}
end
section
variable {K : PySem.W.Frag} {cl : Cw}
end
section
variable {c : Cf} {X : Cx} {e : Expr} {es : List Expr} {fs : DA} {p pos : Pos}
end
end DL

set_option maxRecDepth 100000
set_option maxHeartbeats 4000000
namespace DL
open PySem PySem.Spec PyProof.Rows L2
/-! ### d.get(k, x) -/
def getV : List Key → List D → Key → D → D
  | q :: ks, d :: ds, k, y => if q = k then d else getV ks ds k y
  | _, _, _, y => y
def getO (x y : D) : Option D → Option D
  | some (.dct ks vs) => (keyO x).map fun k => getV ks vs k y
  | _ => none
def dGet2 (j : Nat) (fa fb : DE) : DE := fun δ => match look δ j with
  | some (.dct _ _) => (fa δ).bind fun x δ1 => (fb δ1).bind fun y δ2 => (match getO x y (look δ2 j) with
    | some z => .ok z δ2
    | none => .st)
  | _ => .st
section
variable {c : Cf} {X : Cx} {p pos : Pos} {o e f : Expr} {fa fb : DE} {j : Nat} {apos : Pos}
end
/-! ### reckoning -/
def g2K (j : Nat) (fa fb : DE) (δ : DEnv) : Option D → EO D
  | some (.dct _ _) => (fa δ).bind fun x δ1 => (fb δ1).bind fun y δ2 => oE (getO x y (look δ2 j)) δ2
  | _ => .st
theorem a_get2 (j : Nat) (fa fb : DE) (δ : DEnv) : dGet2 j fa fb δ = g2K j fa fb δ (look δ j) := by
  unfold dGet2 g2K
  cases look δ j with
  | none => rfl
  | some d =>
    cases d with
    | dct ks vs =>
      have e : ∀ x y δ2, (match getO x y (look δ2 j) with | some z => EO.ok z δ2 | none => .st) = oE (getO x y (look δ2 j)) δ2 := fun x y δ2 => by cases getO x y (look δ2 j) <;> rfl
      simp only [e]
    | _ => rfl
end DL

set_option maxRecDepth 100000
set_option maxHeartbeats 4000000
namespace DL
open PySem PySem.Spec PyProof.Rows L2
/-! ### min of a list of texts -/
section
variable {X : Cx}
end
section
variable {K : PySem.W.Frag} {cl : Cw}
end
section
variable {c : Cf} {X : Cx} {e : Expr} {es : List Expr} {fs : DA} {p pos : Pos}
end
end DL

set_option maxRecDepth 100000
set_option maxHeartbeats 4000000
namespace DL
open PySem PySem.Spec PyProof.Rows L2
/-! ### d[k], read -/
def getS : List Key → List D → Key → Option D
  | q :: ks, d :: ds, k => if q = k then some d else getS ks ds k
  | _, _, _ => none
def ixO (x : D) : Option D → Option D
  | some (.dct ks vs) => (keyO x).bind fun k => getS ks vs k
  | _ => none
def dIxK (j : Nat) (fb : DE) : DE := fun δ => match look δ j with
  | some (.dct _ _) => (fb δ).bind fun x δ1 => (match ixO x (look δ1 j) with
    | some z => .ok z δ1
    | none => .st)
  | _ => .st
theorem getS_rep {K : PySem.W.Frag} {cl : Cw} {G : Hp} (k : Key) : ∀ {ks : List Key} {xs : List V} {ds : List D} {z : D}, ks.length = xs.length → RepL K cl G xs ds → getS ks ds k = some z → ∃ v, valV (ks.zip xs) k = some v ∧ Rep K cl G v z
  | [], [], _, _, _, .nil, h => by cases h
  | [], _ :: _, _, _, h, _, _ => by cases h
  | _ :: _, [], _, _, h, _, _ => by cases h
  | q :: ks, x :: xs, d :: ds, z, h, .cons r1 r2, hz => by
    have ih := getS_rep k (ks := ks) (xs := xs) (ds := ds) (z := z) (by simpa using h) r2
    unfold getS at hz
    by_cases e : q = k
    · rw [if_pos e] at hz
      cases hz
      refine ⟨x, ?_, r1⟩
      unfold valV
      rw [List.zip_cons_cons, List.find?_cons, decide_eq_true e]
      rfl
    · rw [if_neg e] at hz
      obtain ⟨v, e1, e2⟩ := ih hz
      refine ⟨v, ?_, e2⟩
      unfold valV at e1 ⊢
      rw [List.zip_cons_cons, List.find?_cons, decide_eq_false e]
      exact e1
section
variable {c : Cf} {X : Cx} {p pos : Pos} {a b : Expr} {fb : DE} {j : Nat}
theorem je_ixD (hu : X.A.units + 65 < cLine) (pa : PE X a (tVar j)) (hb : JE c X b fb) (hs : NoSl b := by exact fun _ _ => rfl) : JE c X (.Subscript a b pos) (dIxK j fb) :=
  je_of (pe_dget (by omega) pa (peS X b) hs) fun R H0 G0 H G σ δ Q k h => by
    unfold dIxK at h
    cases q0 : look δ j with
    | none => rw [q0] at h; exact h.elim
    | some t =>
      rw [q0] at h
      cases t with
      | dct ks vs =>
        obtain ⟨ad, xs, ev, g2, g3, g4⟩ := look_dct k q0
        refine ⟨.ref ad, ev, ?_⟩
        refine hb R H0 G0 H G σ δ _ k (EPost.imp (EPost.bind h) fun y H1 ⟨G1, d1, δ1, s1, k1, r1, h1⟩ => ?_)
        cases q2 : look δ1 j with
        | none => rw [q2] at h1; exact h1.elim
        | some t2 =>
          rw [q2] at h1
          cases t2 with
          | dct ks2 vs2 =>
            cases qk : keyO d1 with
            | none => simp only [ixO, qk, Option.bind_none] at h1; exact h1.elim
            | some kk =>
              simp only [ixO, qk, Option.bind_some] at h1
              cases qz : getS ks2 vs2 kk with
              | none => rw [qz] at h1; exact h1.elim
              | some z =>
                rw [qz] at h1
                obtain ⟨ad2, xs2, ev2, m2, m3, m4⟩ := look_dct k1 q2
                have ee : ad2 = ad := by
                  have z := ev2.symm.trans ev
                  cases z; rfl
                subst ee
                obtain ⟨v, e1, e2⟩ := getS_rep kk m3 m4 qz
                exact ⟨_, v, rfl, by rw [← e1, key_rep qk r1]; exact .k m2, h1 _ H1 G1 (.refl G1) k1 e2⟩
          | _ => exact h1.elim
      | _ => exact h.elim
end
/-! ### reckoning -/
def ixkK (j : Nat) (fb : DE) (δ : DEnv) : Option D → EO D
  | some (.dct _ _) => ixkE j (fb δ)
  | _ => .st
where ixkE (j : Nat) : EO D → EO D
  | .ok x δ => oE (ixO x (look δ j)) δ
  | .ex c n d δ => .ex c n d δ
  | .st => .st
theorem a_ixk (j : Nat) (fb : DE) (δ : DEnv) : dIxK j fb δ = ixkK j fb δ (look δ j) := by
  unfold dIxK ixkK
  cases look δ j with
  | none => rfl
  | some d =>
    cases d with
    | dct ks vs =>
      show ((fb δ).bind fun x δ1 => (match ixO x (look δ1 j) with | some z => EO.ok z δ1 | none => .st)) = ixkK.ixkE j (fb δ)
      cases fb δ with
      | ok x δ1 =>
        show (match ixO x (look δ1 j) with | some z => EO.ok z δ1 | none => .st) = oE (ixO x (look δ1 j)) δ1
        cases ixO x (look δ1 j) <;> rfl
      | ex c n d δ => rfl
      | st => rfl
    | _ => rfl
theorem a_ixkE (j : Nat) (x : D) (δ : DEnv) : ixkK.ixkE j (.ok x δ) = oE (ixO x (look δ j)) δ := rfl
theorem a_ixkK (j : Nat) (fb : DE) (δ : DEnv) (ks : List Key) (ds : List D) : ixkK j fb δ (some (.dct ks ds)) = ixkK.ixkE j (fb δ) := rfl
theorem a_g2K (j : Nat) (fa fb : DE) (δ : DEnv) (ks : List Key) (ds : List D) : g2K j fa fb δ (some (.dct ks ds)) = (fa δ).bind fun x δ1 => (fb δ1).bind fun y δ2 => oE (getO x y (look δ2 j)) δ2 := rfl
end DL

set_option maxRecDepth 100000
set_option maxHeartbeats 4000000
namespace DL
open PySem PySem.Spec PyProof.Rows L2
/-! ### t[::-1], t a tuple -/
section
variable {prog : Program} {w : World} {A : Around} {E : Value → Shared → Prop} {s : Shared}
end
end DL

set_option maxRecDepth 100000
set_option maxHeartbeats 4000000
namespace DL
open PySem PySem.Spec PyProof.Rows L2
/-! ### t[::-1] of a tuple, as a value -/
theorem RepL.reverse {K : PySem.W.Frag} {cl : Cw} {G : Hp} : ∀ {ds : List D} {vs : List V}, RepL K cl G vs ds → RepL K cl G vs.reverse ds.reverse
  | [], _, .nil => .nil
  | d :: ds, _, .cons r t => by
    rw [List.reverse_cons, List.reverse_cons]
    exact (RepL.reverse t).append (.cons r .nil)
section
variable {c : Cf} {X : Cx} {e : Expr} {fe : DE} {pos p1 p2 p3 : Pos} {k : Nat}
/-! ### x.pop() of a list of one's own -/
end
/-! ### d.get(k) of a dict of the module -/
section
variable {X : Cx} {o e : Expr} {apos cpos : Pos} {td ty : TE}
end
section
variable {c : Cf} {X : Cx} {x : Str} {e : Expr} {fe : DE} {p ap cp : Pos} {kvs : List (Str × Int)}
end
/-! ### a call whose last argument is a new empty list -/
section
variable {c : Cf} {X : Cx} {e : Expr} {es : List Expr} {fe : DE} {fs : DA} {p pos : Pos} {x : Str} {k : Nat}
end
end DL

set_option maxRecDepth 100000
set_option maxHeartbeats 4000000
namespace DL
open PySem PySem.Spec PyProof.Rows L2
/-! ### a hook that looks at the module's dicts, too -/
abbrev AlY : Type := AlZ × List (Option (List (Option (Str × Int))))
def obsY (fa : List He.Fa) (fn : List He5.DefA) (ex : List (PySem.W.Frag → Bool)) (ts : List He.Tab) (K : PySem.W.Frag) : AlY := (obsZ fa fn ex K, ts.map fun t => He.dicW K (t.1 K))
def valY (fn : List He5.DefA) (ts : List He.Tab) (w : World) : AlY := ((true, He5.valA fn), ts.map fun t => some (He.keysIn w.params t.2))
def SaysY (fa : List He.Fa) (fn : List He5.DefA) (ex : List (PySem.W.Frag → Bool)) (ts : List He.Tab) (w : World) (K : PySem.W.Frag) : Prop := obsY fa fn ex ts K = valY fn ts w
section
variable {fa : List He.Fa} {fn : List He5.DefA} {ex : List (PySem.W.Frag → Bool)} {ts : List He.Tab} {w : World} {K : PySem.W.Frag}
theorem SaysY.z (c : SaysY fa fn ex ts w K) : SaysZ fa fn ex K := congrArg (fun z : AlY => z.1) c
theorem SaysY.tab (c : SaysY fa fn ex ts w K) (i : Nat) {t : He.Tab} (h : ts[i]? = some t := by rfl) : ∃ es n, KDict K w (t.1 K) es n := by
  have e : ts.map (fun t => He.dicW K (t.1 K)) = ts.map fun t => some (He.keysIn w.params t.2) := congrArg (fun z : AlY => z.2) c
  have e2 : (ts.map fun t => He.dicW K (t.1 K))[i]? = (ts.map fun t => some (He.keysIn w.params t.2))[i]? := by rw [e]
  rw [List.getElem?_map, List.getElem?_map, h] at e2
  exact He.dicW_ok (Option.some.inj e2)
end
/-! ### reckoning -/
end DL

set_option maxRecDepth 100000
set_option maxHeartbeats 4000000
namespace DL
open PySem PySem.Spec PyProof.Rows L2
/-! ### x[i] op= e -/
section
variable {c : Cf} {X : Cx} {o i e : Expr} {j : Nat} {fe fi : DE} {tp pos : Pos} {op : Operator} {r : R2} {g : D → D → Option D}
end
end DL

set_option maxRecDepth 100000
set_option maxHeartbeats 4000000
namespace DL
open PySem PySem.Spec PyProof.Rows L2
/-! ### dict(zip(a, b)) of two tuples: a zip whose last tuple is still held -/
section
variable {prog : Program} {w : World} {A : Around} {E : Value → Shared → Prop} {s : Shared} {z TI TO T i1 i2 : Addr} {fp1 fp2 : List Addr} {n1 n2 i : Nat} {P1 P2 : Nat → Value → Prop} {St1 St2 : Nat → Heap → Prop} {f : Bool} {oT : Obj}
theorem zh_item {Q : Value → Shared → Prop} (S : ZipSep2 z TI TO i1 i2 fp1 fp2) (D1 : Draws prog w A i1 fp1 n1 P1 St1) (D2 : Draws prog w A i2 fp2 n2 P2 St2)
    (hz : IsZipHeld s.heap z TI TO T f) (hT : s.heap.get? T = some oT) (hTI : IsTupOf2 s.heap TI (.ref i1) (.ref i2)) (st1 : St1 i s.heap) (st2 : St2 i s.heap) (hlt1 : i < n1) (hlt2 : i < n2)
    (hQ : ∀ x1 x2 h' tk, P1 i x1 → P2 i x2 → IsZipHeld h' z TI TO T true → St1 (i + 1) h' → St2 (i + 1) h' → IsTupOf2 h' s.heap.objs.size x1 x2 →
      (∀ c o, c ≠ z → c ≠ i1 → c ≠ i2 → s.heap.get? c = some o → h'.get? c = some o) → Q (.ref s.heap.objs.size) { s with heap := h', toks := tk }) :
    wpAny (model prog w) A (Builtin.«zip.__next__» ⟨[.ref z], []⟩) (fun fin s' => ∃ v, fin = .done (.ret v) ∧ Q v s') E s := by
  obtain ⟨hp, g, d, tk0, os⟩ := s
  show wpAny _ _ (field (.ref z) 2 >>= _) _ _ _
  refine wpAny_bind (wpAny_field hz rfl (x := .bool false) rfl ?_)
  show wpAny _ _ (field (.ref z) 3 >>= _) _ _ _
  refine wpAny_bind (wpAny_field hz rfl (x := .ref TI) rfl ?_)
  refine wpAny_bind (wpAny_seqItems hTI rfl ?_)
  show wpAny _ _ (Builtin.SmallTypes.ownedTupleIsFree (.ref z) >>= _) _ _ _
  refine wpAny_bind (wpAny_tupleHeld_zip hz hT fun h1 hz1 hs1 => ?_)
  replace hs1 : Heap.SameBut z hp h1 := hs1
  simp only [Bool.false_eq_true, if_false]
  refine wpAny_bind ?_
  rw [← Array.forIn_toList]
  simp only [List.forIn_cons, List.forIn_nil]
  refine wpAny_bind (wpAny_bind (wpAny_holding ?_))
  show wpAny _ _ (Builtin.SmallTypes.nextOf (.ref i1) >>= _) _ _ ⟨h1, g, d, tk0, os⟩
  refine wpAny_bind (D1.item i _ _ _ hlt1 (D1.over st1 hs1 S.zf1) fun x1 h2 tk1 y1 sn1 hs2 => wpAny_pure ?_)
  replace hs2 : Heap.SameBut i1 h1 h2 := hs2
  refine wpAny_pure ?_
  refine wpAny_bind (wpAny_bind (wpAny_holding ?_))
  show wpAny _ _ (Builtin.SmallTypes.nextOf (.ref i2) >>= _) _ _ ⟨h2, g, d, tk1, os⟩
  refine wpAny_bind (D2.item i _ _ _ hlt2 (D2.over (D2.over st2 hs1 S.zf2) hs2 S.sep1_2) fun x2 h3 tk2 y2 sn2 hs3 => wpAny_pure ?_)
  replace hs3 : Heap.SameBut i2 h2 h3 := hs3
  refine wpAny_pure (wpAny_pure ?_)
  show wpAny _ _ (newTuple [x1, x2] >>= _) _ _ ⟨h3, g, d, tk2, os⟩
  refine wpAny_bind (wpAny_newTuple ?_)
  have hsz : h3.objs.size = hp.objs.size := by rw [hs3.1, hs2.1, hs1.1]
  have hz3 : IsZipHeld h3 z TI TO T true := hs3.extBut _ _ S.zi2 (hs2.extBut _ _ S.zi1 hz1)
  have hk : ∀ c o, c ≠ z → c ≠ i1 → c ≠ i2 → hp.get? c = some o → h3.get? c = some o := fun c o c1 c2 c3 e => hs3.extBut _ _ c3 (hs2.extBut _ _ c2 (hs1.extBut _ _ c1 e))
  refine wpAny_pure ⟨_, rfl, ?_⟩
  show Q (.ref h3.objs.size) ⟨h3.push { cls := .type "tuple", data := .seq #[x1, x2] }, g, d, tk2, os⟩
  have hpr : IsTupOf2 (h3.push { cls := .type "tuple", data := .seq #[x1, x2] }) h3.objs.size x1 x2 := Heap.get?_push_size _ rfl
  rw [hsz] at hpr ⊢
  exact hQ x1 x2 _ tk2 y1 y2 (Heap.get?_push_of_some _ hz3) (D1.frame _ _ _ (D1.over sn1 hs3 S.sep2_1) fun b hb o e => Heap.get?_push_of_some _ e) (D2.frame _ _ _ sn2 fun b hb o e => Heap.get?_push_of_some _ e) hpr fun c o c1 c2 c3 e => Heap.get?_push_of_some _ (hk c o c1 c2 c3 e)
theorem zh_end {Q : Fin → Shared → Prop} (S : ZipSep2 z TI TO i1 i2 fp1 fp2) (D1 : Draws prog w A i1 fp1 n1 P1 St1) (D2 : Draws prog w A i2 fp2 n2 P2 St2)
    (hz : IsZipHeld s.heap z TI TO T f) (hT : s.heap.get? T = some oT) (hTI : IsTupOf2 s.heap TI (.ref i1) (.ref i2)) (st1 : St1 i s.heap) (st2 : St2 i s.heap) (hle1 : i ≤ n1) (hend : i = n1 ∨ i = n2)
    (hE : ∀ h' tk e, (∀ c o, c ≠ z → c ≠ i1 → c ≠ i2 → s.heap.get? c = some o → h'.get? c = some o) → (∃ o, h'.get? e = some o ∧ o.cls = .type "StopIteration") → E (.ref e) { s with heap := h', toks := tk }) :
    wpAny (model prog w) A (Builtin.«zip.__next__» ⟨[.ref z], []⟩) Q E s := by
  obtain ⟨hp, g, d, tk0, os⟩ := s
  show wpAny _ _ (field (.ref z) 2 >>= _) _ _ _
  refine wpAny_bind (wpAny_field hz rfl (x := .bool false) rfl ?_)
  show wpAny _ _ (field (.ref z) 3 >>= _) _ _ _
  refine wpAny_bind (wpAny_field hz rfl (x := .ref TI) rfl ?_)
  refine wpAny_bind (wpAny_seqItems hTI rfl ?_)
  show wpAny _ _ (Builtin.SmallTypes.ownedTupleIsFree (.ref z) >>= _) _ _ _
  refine wpAny_bind (wpAny_tupleHeld_zip hz hT fun h1 hz1 hs1 => ?_)
  replace hs1 : Heap.SameBut z hp h1 := hs1
  simp only [Bool.false_eq_true, if_false]
  refine wpAny_bind ?_
  rw [← Array.forIn_toList]
  simp only [List.forIn_cons, List.forIn_nil]
  refine wpAny_bind (wpAny_bind (wpAny_holding ?_))
  show wpAny _ _ (Builtin.SmallTypes.nextOf (.ref i1) >>= _) _ _ ⟨h1, g, d, tk0, os⟩
  by_cases q : i = n1
  · subst q
    refine wpAny_bind (D1.done _ _ _ (D1.over st1 hs1 S.zf1) fun h2 e hs2 he => ?_)
    exact hE h2 tk0 e (fun c o c1 c2 _ x => hs2 _ _ c2 (hs1.extBut _ _ c1 x)) he
  · have hi2 : i = n2 := hend.resolve_left q
    subst hi2
    refine wpAny_bind (D1.item i _ _ _ (by omega) (D1.over st1 hs1 S.zf1) fun x1 h2 tk1 y1 sn1 hs2 => wpAny_pure ?_)
    replace hs2 : Heap.SameBut i1 h1 h2 := hs2
    refine wpAny_pure ?_
    refine wpAny_bind (wpAny_bind (wpAny_holding ?_))
    show wpAny _ _ (Builtin.SmallTypes.nextOf (.ref i2) >>= _) _ _ ⟨h2, g, d, tk1, os⟩
    refine wpAny_bind (D2.done _ _ _ (D2.over (D2.over st2 hs1 S.zf2) hs2 S.sep1_2) fun h3 e hs3 he => ?_)
    exact hE h3 tk1 e (fun c o c1 c2 c3 x => hs3 _ _ c3 (hs2.extBut _ _ c2 (hs1.extBut _ _ c1 x))) he
theorem nx_zh_item {Q : Option Value → Shared → Prop} (S : ZipSep2 z TI TO i1 i2 fp1 fp2) (D1 : Draws prog w A.in1 i1 fp1 n1 P1 St1) (D2 : Draws prog w A.in1 i2 fp2 n2 P2 St2)
    (hz : IsZipHeld s.heap z TI TO T f) (hT : s.heap.get? T = some oT) (hTI : IsTupOf2 s.heap TI (.ref i1) (.ref i2)) (st1 : St1 i s.heap) (st2 : St2 i s.heap) (hlt1 : i < n1) (hlt2 : i < n2)
    (hQ : ∀ x1 x2 h' tk, P1 i x1 → P2 i x2 → IsZipHeld h' z TI TO T true → St1 (i + 1) h' → St2 (i + 1) h' → IsTupOf2 h' s.heap.objs.size x1 x2 →
      (∀ c o, c ≠ z → c ≠ i1 → c ≠ i2 → s.heap.get? c = some o → h'.get? c = some o) → Q (some (.ref s.heap.objs.size)) { s with heap := h', toks := tk }) :
    wpAny (model prog w) A (pyNext (.ref z)) Q E s := by
  have hTy : s.TypeIs (.ref z) "zip" := ⟨_, hz, rfl⟩
  unfold pyNext
  exact wpAny_bind (wpAny_attempt (wpAny_callSpecial?_slot (name := Str.ofString "__next__") hTy F.slot_zip_next
    (wpAny_call_entry F.slot_zip_next hTy F.entry_zip_next
      (zh_item S D1 D2 hz hT hTI st1 st2 hlt1 hlt2 fun x1 x2 h' tk y1 y2 b1 d1 d2 b5 b7 => wpAny_pure (hQ x1 x2 h' tk y1 y2 b1 d1 d2 b5 b7)) (F.args_zip_next_1 _))))
theorem nx_zh_end {Q : Option Value → Shared → Prop} (S : ZipSep2 z TI TO i1 i2 fp1 fp2) (D1 : Draws prog w A.in1 i1 fp1 n1 P1 St1) (D2 : Draws prog w A.in1 i2 fp2 n2 P2 St2)
    (hz : IsZipHeld s.heap z TI TO T f) (hT : s.heap.get? T = some oT) (hTI : IsTupOf2 s.heap TI (.ref i1) (.ref i2)) (st1 : St1 i s.heap) (st2 : St2 i s.heap) (hle1 : i ≤ n1) (hend : i = n1 ∨ i = n2)
    (hQ : ∀ h' tk, (∀ c o, c ≠ z → c ≠ i1 → c ≠ i2 → s.heap.get? c = some o → h'.get? c = some o) → Q none { s with heap := h', toks := tk }) : wpAny (model prog w) A (pyNext (.ref z)) Q E s := by
  have hTy : s.TypeIs (.ref z) "zip" := ⟨_, hz, rfl⟩
  unfold pyNext
  refine wpAny_bind (wpAny_attempt (wpAny_callSpecial?_slot (name := Str.ofString "__next__") hTy F.slot_zip_next
    (wpAny_call_entry F.slot_zip_next hTy F.entry_zip_next (zh_end S D1 D2 hz hT hTI st1 st2 hle1 hend fun h' tk e hk he => ?_) (F.args_zip_next_1 _))))
  obtain ⟨o, ho, hc⟩ := he
  refine wpAny_bind (wpAny_isInstance (T := "StopIteration") (b := true) ⟨o, ho, hc⟩ isSubtype_stop ?_)
  exact wpAny_pure (hQ _ _ hk)
end
end DL

set_option maxRecDepth 100000
set_option maxHeartbeats 4000000
namespace DL
open PySem PySem.Spec PyProof.Rows L2
section
variable {prog : Program} {w : World}
end
end DL

set_option maxRecDepth 100000
set_option maxHeartbeats 4000000
namespace DL
open PySem PySem.Spec PyProof.Rows L2
/-! ### dict(zip(a, b)) of two tuples -/
theorem zsep {n a b : Nat} (ha : a < n) (hb : b < n) : ZipSep2 (n + 4) (n + 2) (n + 3) n (n + 1) [n, a] [n + 1, b] where
  TIz := show (n + 2 : Nat) ≠ n + 4 by omega
  TOz := show (n + 3 : Nat) ≠ n + 4 by omega
  TITO := show (n + 2 : Nat) ≠ n + 3 by omega
  TIi1 := show (n + 2 : Nat) ≠ n by omega
  mem1 := List.mem_cons_self
  zf1 := show (n + 4 : Nat) ∉ ([n, a] : List Nat) by simp; omega
  Tf1 := show (n + 3 : Nat) ∉ ([n, a] : List Nat) by simp; omega
  TIi2 := show (n + 2 : Nat) ≠ n + 1 by omega
  mem2 := List.mem_cons_self
  zf2 := show (n + 4 : Nat) ∉ ([n + 1, b] : List Nat) by simp; omega
  Tf2 := show (n + 3 : Nat) ∉ ([n + 1, b] : List Nat) by simp; omega
  sep1_2 := show (n : Nat) ∉ ([n + 1, b] : List Nat) by simp; omega
  sep2_1 := show (n + 1 : Nat) ∉ ([n, a] : List Nat) by simp; omega
theorem fr_off {n b : Nat} (h : b < n) : b ∉ ([n + 4, n + 3, n, n + 1] : List Nat) := by simp; omega
section
variable {X : Cx} {e e2 : Expr} {t : TA} {p p2 q pos : Pos}
end
end DL

set_option maxRecDepth 100000
set_option maxHeartbeats 4000000
namespace DL
open PySem PySem.Spec PyProof.Rows L2
/-! ### dict(zip(a, b)) by deep values -/
def seqT : D → Option (List D)
  | .tup ds => some ds
  | .tpn ds => some ds
  | _ => none
def keysOfD : List D → Option (List Key)
  | [] => some []
  | d :: ds => (toKey d).bind fun k => (keysOfD ds).map (k :: ·)
theorem seqT_rep {K : PySem.W.Frag} {cl : Cw} {H G : Hp} {v : V} {d : D} {ds : List D} (s : Sub G H) (r : Rep K cl G v d) (e : seqT d = some ds) : ∃ a xs, v = .ref a ∧ SqT K H a xs ∧ RepL K cl G xs ds := by
  cases r with
  | @tup a xs ds' q1 q2 => cases e; exact ⟨a, xs, rfl, s.sqT q1, q2⟩
  | @tpn a ob xs ds' g _ _ q2 => cases e; exact ⟨a, xs, rfl, .inl (.inr ⟨ob, s _ _ g⟩), q2⟩
  | _ => cases e
theorem keysOf_rep {K : PySem.W.Frag} {cl : Cw} {G : Hp} : ∀ {xs : List V} {ds : List D} {kk : List Key}, RepL K cl G xs ds → keysOfD ds = some kk → xs = kk.map kV
  | [], _, _, .nil, e => by cases e; rfl
  | x :: xs, _, kk, .cons (d := d) (ds := ds) r t, e => by
    unfold keysOfD at e
    cases q : toKey d with
    | none => rw [q] at e; cases e
    | some k =>
      rw [q] at e
      cases q2 : keysOfD ds with
      | none => rw [q2] at e; cases e
      | some ks =>
        rw [q2] at e
        cases e
        rw [List.map_cons, ← keysOf_rep t q2, toKey_ok r q]
theorem merge_new : ∀ (more acc : List (Key × V)), ((acc ++ more).map (·.1)).Nodup → mergeK acc more = acc ++ more
  | [], acc, _ => by rw [List.append_nil]; rfl
  | p :: more, acc, h => by
    have hp : (acc.any fun kv => decide (kv.1 = p.1)) = false := by
      rw [List.any_eq_false]
      intro q hq
      rw [decide_eq_true_eq]
      intro e
      rw [List.map_append, List.nodup_append] at h
      exact h.2.2 _ (List.mem_map.mpr ⟨q, hq, rfl⟩) _ (List.mem_map.mpr ⟨p, List.mem_cons_self, rfl⟩) e
    show mergeK (putK acc p.1 p.2) more = _
    have e : putK acc p.1 p.2 = acc ++ [p] := by unfold putK; rw [hp, if_neg Bool.false_ne_true]
    rw [e, merge_new more (acc ++ [p]) (by rw [List.append_assoc]; exact h), List.append_assoc]
    rfl
section
variable {c : Cf} {X : Cx} {e e2 : Expr} {fs : DA} {p p2 q pos : Pos}
end
end DL

set_option maxRecDepth 100000
set_option maxHeartbeats 4000000
namespace DL
open PySem PySem.Spec PyProof.Rows L2
/-! ### l.index(i), l a list of ints -/
section
variable {c : Cf} {X : Cx} {o e : Expr} {apos cpos : Pos} {fo fe : DE}
end
/-! ### reckoning -/
end DL

set_option maxRecDepth 100000
set_option maxHeartbeats 4000000
namespace DL
open PySem PySem.Spec PyProof.Rows L2
/-! ### x, y = a, b -/
section
variable {c : Cf} {X : Cx} {i j l : Nat} {x y z : Str} {a b e : Expr} {fs : DA} {px py pz pt pos : Pos} {kt k2 : Nat} {pt2 : Pos}
end
/-! ### reckoning -/
end DL

set_option maxRecDepth 100000
set_option maxHeartbeats 4000000
namespace DL
open PySem PySem.Spec PyProof.Rows L2
/-! ### a thing of one's own, read as a value ahead of a statement -/
section
variable {c : Cf} {X : Cx} {i : Nat} {st : Stmt} {F : DS}
end
end DL

set_option maxRecDepth 100000
set_option maxHeartbeats 4000000
namespace DL
open PySem PySem.Spec PyProof.Rows L2
/-! ### a hook that looks at written addresses (what is reached from the names need not be reckoned by the kernel) -/
def obsLG (as : List Addr) (fa : List He.Fa) (fn : List He5.DefA) (ex : List (PySem.W.Frag → Bool)) (ts : List He.Tab) (g : Addr → Option Obj) : AlY := obsY fa fn ex ts (He.frG g as)
def hookL (as : List Addr) (fa : List He.Fa) (fn : List He5.DefA) (ex : List (PySem.W.Frag → Bool)) (ts : List He.Tab) : PySem.W.Hook where
  α := AlY
  obs s := obsLG as fa fn ex ts s.heap.get?
  val w := valY fn ts w
  says w h := ∃ K : PySem.W.Frag, K.In h ∧ SaysY fa fn ex ts w K
  of _ _ e := ⟨_, He.frG_in, e⟩
  keeps := fun _ _ _ ⟨K, hK, c⟩ k => ⟨K, PySem.W.Frag.In.keeps hK k, c⟩
theorem obsLG_eq {as : List Addr} {fa : List He.Fa} {fn : List He5.DefA} {ex : List (PySem.W.Frag → Bool)} {ts : List He.Tab} {g : Addr → Option Obj} {s : Shared} (h : ∀ a, g a = s.heap.get? a) : obsLG as fa fn ex ts g = (hookL as fa fn ex ts).obs s := congrArg (obsLG as fa fn ex ts) (funext h)
end DL

set_option maxRecDepth 100000
set_option maxHeartbeats 4000000
namespace DL
open PySem PySem.Spec PyProof.Rows L2
/-! ### list(range(a, b)) -/
section
variable {c : Cf} {X : Cx} {fa fb : DE} {p pos : Pos}
end
end DL

set_option maxRecDepth 100000
set_option maxHeartbeats 4000000
namespace DL
open PySem PySem.Spec PyProof.Rows L2
/-! ### list(zip(a, b)) of two tuples: a list of new pairs -/
/-- the addresses as hold pairs that P tells, in order; they lie above lo and rise -/
structure ZlG (P : Nat → Value → Value → Prop) (lo : Addr) (h : Heap) (as : List Addr) : Prop where
  rise : as.Pairwise (· < ·)
  above : ∀ a ∈ as, lo < a
  pairs : ∀ (j : Nat) (a : Addr), as[j]? = some a → ∃ x y, P j x y ∧ IsTupOf2 h a x y
theorem ZlG.there {P : Nat → Value → Value → Prop} {lo : Addr} {h : Heap} {as : List Addr} (g : ZlG P lo h as) {a : Addr} (ha : a ∈ as) : a < h.objs.size := by
  obtain ⟨j, hj⟩ := List.mem_iff_getElem?.mp ha
  obtain ⟨_, _, _, e⟩ := g.pairs j a hj
  exact Heap.lt_size e
/-- what turns out new pairs, while the list S grows -/
structure NSrc (prog : Program) (w : World) (A : Around) (I S : Addr) (wr : List Addr) (n : Nat) (P : Nat → Value → Value → Prop) (St : Nat → Heap → Prop) : Prop where
  low : ∀ b ∈ wr, b < S
  frame : ∀ i h h', St i h → (∀ b o, b ≠ S → h.get? b = some o → h'.get? b = some o) → St i h'
  item : ∀ i (s : Shared) (Q : Option Value → Shared → Prop) (E : Value → Shared → Prop), i < n → St i s.heap → S < s.heap.objs.size →
    (∀ k v h' tk, P i k v → IsTupOf2 h' s.heap.objs.size k v → St (i + 1) h' → (∀ b o, b ∉ wr → s.heap.get? b = some o → h'.get? b = some o) → Q (some (.ref s.heap.objs.size)) { s with heap := h', toks := tk }) → wpAny (model prog w) A (pyNext (.ref I)) Q E s
  done : ∀ (s : Shared) (Q : Option Value → Shared → Prop) (E : Value → Shared → Prop), St n s.heap →
    (∀ h' tk, (∀ b o, b ∉ wr → s.heap.get? b = some o → h'.get? b = some o) → Q none { s with heap := h', toks := tk }) → wpAny (model prog w) A (pyNext (.ref I)) Q E s
section
variable {prog : Program} {w : World} {A : Around} {s : Shared} {R : Result → Shared → Prop} {I S : Addr} {wr : List Addr} {n : Nat} {P : Nat → Value → Value → Prop} {St : Nat → Heap → Prop}
end
section
variable {prog : Program} {w : World} {A : Around} {E : Value → Shared → Prop} {s : Shared}
section
variable {R : Result → Shared → Prop} {z TI TO i1 i2 l1 l2 Sl : Addr} {xs ys : Array Value}
end
end
/-! ### the pairs and the list tracked -/
section
variable {X : Cx}
end
section
variable {X : Cx} {e e2 : Expr} {t : TA} {p p2 q pos : Pos}
end
/-! ### by deep values -/
section
variable {c : Cf} {X : Cx} {e : Expr} {es : List Expr} {fs : DA} {r : List V → Hp → VK → Prop} {g : List D → Option D} {pos : Pos}
end
section
variable {K : PySem.W.Frag} {cl : Cw}
end
section
variable {c : Cf} {X : Cx} {e e2 : Expr} {fs : DA} {p p2 q pos : Pos}
end
end DL

set_option maxRecDepth 100000
set_option maxHeartbeats 4000000
namespace DL
open PySem PySem.Spec PyProof.Rows L2
/-! ### x.pop(i), x.insert(i, e) as statements; x[i], x[j] = a, b; x a list of one's own -/
section
variable {c : Cf} {X : Cx} {pos : Pos}
/-! ### x[i], x[j] = e -/
end
/-! ### reckoning -/
section
variable (j : Nat) (fi fe f1 f2 : DE) (δ : DEnv) (v i a b : D) (ds : List D) (n : Int)
end
end DL

set_option maxRecDepth 100000
set_option maxHeartbeats 4000000
namespace DL
open PySem PySem.Spec PyProof.Rows L2
/-! ### several except clauses, some of them with a name -/
/-- a clause: its class, the slot of its name, what its suite wishes -/
abbrev Cl : Type := Value × Option Nat × (Addr → Value → Option Addr → TS)
def offE (i : Nat) (D : Ends) : Ends := { nx := fun σ H => D.nx (σ.set i none) H, rt := D.rt, bk := fun σ H => D.bk (σ.set i none) H, ct := fun σ H => D.ct (σ.set i none) H }
def clW (D : Ends) (a : Addr) (cls : Value) (d : Option Addr) (σ : L2.St) (H : Hp) : Option Nat → (Addr → Value → Option Addr → TS) → Prop
  | none, ts => ts a cls d D σ H
  | some i, ts => ts a cls d (offE i D) (σ.set i (some (.ref a))) H
def wCl (K : PySem.W.Frag) (W0 : WX) (D : Ends) : List Cl → WX
  | [] => W0
  | q :: r => fun cls d σ H => ∃ b, PySem.W.exmOne K cls q.1 = some b ∧ (b = true → ∀ a, H a = none → clW D a cls d σ H q.2.1 q.2.2) ∧ (b = false → wCl K W0 D r cls d σ H)
inductive ClOk (X : Cx) : List ExceptHandler → List Cl → Prop
  | nul : ClOk X [] []
  | plain {x : Str} {c : Value} {ts : Addr → Value → Option Addr → TS} {b0 : Stmt} {su : List Stmt} {np p' : Pos} {hds : List ExceptHandler} {l : List Cl} (hc : Names X x c)
      (h : ∀ (a : Addr) (oe : Obj) (k : Value) (d : Option Addr) (pn : List (Addr × Obj)), Zc k d oe → (∃ vs, oe.data = .fields vs) → PSs (X.suite a ((a, oe) :: pn)) (b0 :: su) (ts a k d)) (r : ClOk X hds l) :
      ClOk X (.ExceptHandler (some (.Name x np)) none (b0 :: su) p' :: hds) ((c, none, ts) :: l)
  | named {x n : Str} {i : Nat} {c : Value} {ts : Addr → Value → Option Addr → TS} {b0 : Stmt} {su : List Stmt} {np p' : Pos} {hds : List ExceptHandler} {l : List Cl} (hc : Names X x c) (hN : X.N.Nodup) (hi : X.N[i]? = some n) (hk : X.env.kindOf n = some NameKind.local)
      (h : ∀ (a : Addr) (oe : Obj) (k : Value) (d : Option Addr) (pn : List (Addr × Obj)), Zc k d oe → (∃ vs, oe.data = .fields vs) → PSs (X.suite a ((a, oe) :: pn)) (b0 :: su) (ts a k d)) (r : ClOk X hds l) :
      ClOk X (.ExceptHandler (some (.Name x np)) (some n) (b0 :: su) p' :: hds) ((c, some i, ts) :: l)
section
variable {X : Cx} {body : List Stmt} {c0 : ExceptHandler} {cs : List ExceptHandler} {l : List Cl} {pos : Pos} {tb : WX → TS} {W0 : WX}
theorem ps_tryCl (stk : X.stack = X.env :: X.outer) (frm : X.env.frame = some X.env.locals) (tk : Takes X W0)
    (hb : ∀ (W : WX) (pn : List (Addr × Obj)) (xe : Value → Shared → Prop), Takes (X.tr pn xe) W → PassesOwn (model X.prog X.w) X.A X.env xe → PSs (X.tr pn xe) body (tb W))
    (all : ClOk X (c0 :: cs) l) : PS X (.Try body (c0 :: cs) [] [] pos) (fun D σ H => tb (wCl X.K W0 D l) D σ H) := by
  refine ⟨fun pins s σ H D inv wish => ?_⟩
  have gd := inv.ok
  have two : X.A.frames = some (X.env :: X.outer) := by rw [gd.frames, stk]
  refine wpAny_Try_except (wpAny_mono ((hb (wCl X.K W0 D l) (X.pn ++ pins) (fun e t1 => wpAny (model X.prog X.w) X.A (noteFrame e X.env) (fun _ t2 => wpAny (model X.prog X.w) X.A (setFlight e none) (fun _ t3 =>
    wpAny (model X.prog X.w) X.A (handleBy e X.env (c0 :: cs)) (SP X pins D) X.xe t3) X.xe t2) X.xe t1) (fun u sc cc => ?_) PassesOwn.looking).run [] s σ H D (inv.toTry _) wish) (fun fl t1 q => ?_) (fun e t1 z => z))
  · obtain ⟨a, B, sI, pins', σ1, H1, cls, d, rfl, J0, nb, up, sky, na, os, ag, w⟩ := cc
    have J : Inv X pins σ1 H1 sI := J0.ofTry gd
    have sky1 : Sky B (X.env :: X.outer) a (Zc cls d) X.env.locals sc.heap := by rw [← stk]; exact sky
    show wpAny (model X.prog X.w) X.A (noteFrame (.ref a) X.env) _ _ _
    refine Sky.land Zc.steady two frm sky1 fun hA fA uA => ?_
    have jA : Inv X pins σ1 H1 { sc with heap := hA } := J.landed nb fA.1 (up.trans uA) os ag
    obtain ⟨oA, vA, eA, zA, dA⟩ := fA.there
    have apart : a ∉ frs (X.env :: X.outer) := fun hm => by
      obtain ⟨_, o2, e2, hno⟩ := fA.2.2.1.mem hm
      rw [eA] at e2; cases e2
      exact hno _ dA
    have nL : a ≠ X.env.locals := fun z => apart (List.mem_filterMap.mpr ⟨X.env, List.mem_cons_self, by rw [frm, z]⟩)
    have nF : a ∉ X.fs := fun hm => by
      obtain ⟨e, he, q⟩ := List.mem_filterMap.mp hm
      exact apart (List.mem_filterMap.mpr ⟨e, List.mem_cons_of_mem _ he, q⟩)
    have sA := jA.suite eA dA na nL nF
    have asked : ∀ {x : Str} {c : Value} {np : Pos} {Q : Value → Shared → Prop} {E : Value → Shared → Prop}, Names X x c → Q c { sc with heap := hA } → wpAny (model X.prog X.w) (X.A.mark (some (.ref a))) (eval (.Name x np) X.env) Q E { sc with heap := hA } := fun {x c np Q E} hc q => by
      obtain ⟨g1, g2, hm | ⟨hm, hv, hn⟩⟩ := hc
      · exact ld_glob (X := X.suite a ((a, oA) :: (X.pn ++ pins))) sA g1 hm q g2
      · exact ld_blt (X := X.suite a ((a, oA) :: (X.pn ++ pins))) sA g1 hm hv q hn g2
    have looks : PySem.W.Looks (model X.prog X.w) hA (typeOf (.ref a)) cls := fun A Q E t k q => wpAny_typeOf_ref (k _ _ eA) (by rw [zA.1]; exact q)
    have each : ∀ {cs' : List ExceptHandler} {l' : List Cl}, ClOk X cs' l' → wCl X.K W0 D l' cls d σ1 H1 → wpAny (model X.prog X.w) X.A (handleBy (.ref a) X.env cs') (SP X pins D) X.xe { sc with heap := hA } := by
      intro cs' l' ok
      induction ok with
      | nul =>
        intro w
        refine wpAny_handleBy_nil ?_
        obtain ⟨_, _, _, oe, vs, T, _, _, he, _, hd, h1, _⟩ := id fA
        unfold PySem.passOn
        refine wpAny_bind (wpAny_field he hd h1 ?_)
        rw [if_neg (show ¬ ((Value.ref T == Value.none) = true) from by simp)]
        have out : wpAny (model X.prog X.w) X.A (setFlight (.ref a) X.env.frame) (fun _ t4 => wpAny (model X.prog X.w) X.A (throw (.ref a) : Sem Flow) (SP X pins D) X.xe t4) X.xe { sc with heap := hA } := by
          rw [frm]
          exact HandSPX.setFlight_upZ fA fun hB q2 uB => wpAny_throw (tk _ _ ⟨a, B, sI, pins, σ1, H1, cls, d, rfl, J, nb, (up.trans uA).trans uB, .inr (.inr (by rw [stk]; exact q2)), na, os, ag, w⟩)
        first
          | exact wpAny_bind (wpAny_pure (wpAny_bind out))
          | exact wpAny_bind out
      | @plain x c ts b0 su np p' hds l2 hc hsu r ih =>
        intro w
        obtain ⟨b, k1, yes, no⟩ := w
        refine wpAny_handleBy_cons (codeAny_handlers_test ?_) (by intro q; cases q)
        refine asked hc ((PySem.W.exm_one (M := model X.prog X.w) jA.kIn looks k1).here ?_)
        cases b with
        | false => exact ih (no rfl)
        | true =>
          refine codeAny_handlers_suite (HandSPX.lands_againZ fA fun hB fB uB => ?_)
          have jB : Inv X pins σ1 H1 { sc with heap := hB } := J.landed nb fB.1 ((up.trans uA).trans uB) os ag
          obtain ⟨oB, vB, eB, zB, dB⟩ := fB.there
          refine wpAny_mono ((hsu a oB cls d (X.pn ++ pins) zB ⟨_, dB⟩).run [] _ _ H1 _ (jB.suite eB dB na nL nF) (yes rfl a na)) (fun fl t6 q => ?_) (fun _ _ z => False.elim z)
          cases fl with
          | next => obtain ⟨σ6, H6, i6, q6⟩ := q; exact ⟨_, _, i6.unsuite gd, q6⟩
          | brk => obtain ⟨σ6, H6, i6, q6⟩ := q; exact ⟨_, _, i6.unsuite gd, q6⟩
          | cont => obtain ⟨σ6, H6, i6, q6⟩ := q; exact ⟨_, _, i6.unsuite gd, q6⟩
          | ret u => obtain ⟨v6, σ6, H6, i6, r6, q6⟩ := q; exact ⟨_, _, _, i6.unsuite gd, r6, q6⟩
      | @named x n i c ts b0 su np p' hds l2 hc hN hi hk hsu r ih =>
        intro w
        obtain ⟨b, k1, yes, no⟩ := w
        refine wpAny_handleBy_cons (codeAny_handlers_test ?_) (by intro q; cases q)
        refine asked hc ((PySem.W.exm_one (M := model X.prog X.w) jA.kIn looks k1).here ?_)
        cases b with
        | false => exact ih (no rfl)
        | true =>
          refine codeAny_handlers_suite_as (HandSPX.lands_againZ fA fun hB fB uB => ?_)
          have jB : Inv X pins σ1 H1 { sc with heap := hB } := J.landed nb fB.1 ((up.trans uA).trans uB) os ag
          obtain ⟨oB, vB, eB, zB, dB⟩ := fB.there
          refine store_ok (X := X.suite a ((a, oB) :: (X.pn ++ pins))) (v := .ref a) (jB.suite eB dB na nL nF) hN hi (.inl hk) rfl (fun t5 i5 => ?_) (.inr hk)
          refine wpAny_mono ((hsu a oB cls d (X.pn ++ pins) zB ⟨_, dB⟩).run [] t5 _ H1 _ i5 (yes rfl a na)) (fun fl t6 q => ?_) (fun _ _ z => False.elim z)
          have shut : ∀ {σ6 : L2.St} {H6 : Hp} {Q : Shared → Prop}, Inv (X.suite a ((a, oB) :: (X.pn ++ pins))) [] σ6 H6 t6 → (∀ t7, Inv X pins (σ6.set i none) H6 t7 → Q t7) →
              wpAny (model X.prog X.w) X.A (do bindName X.env n .none; unbindBehindTheSuite X.env n p') (fun _ t7 => Q t7) X.xe t6 := fun {σ6 H6 Q} i6 hq => gone_ok (i6.unsuite gd) hN hi hk hq
          cases fl with
          | next => obtain ⟨σ6, H6, i6, q6⟩ := q; exact shut i6 fun t7 i7 => ⟨_, _, i7, q6⟩
          | brk => obtain ⟨σ6, H6, i6, q6⟩ := q; exact shut i6 fun t7 i7 => ⟨_, _, i7, q6⟩
          | cont => obtain ⟨σ6, H6, i6, q6⟩ := q; exact shut i6 fun t7 i7 => ⟨_, _, i7, q6⟩
          | ret u => obtain ⟨v6, σ6, H6, i6, r6, q6⟩ := q; exact shut i6 fun t7 i7 => ⟨_, _, _, i7, r6, q6⟩
    exact each all w
  · cases fl with
    | next => obtain ⟨σ1, H1, i1, q1⟩ := q; exact wpAny_execs_nil ⟨σ1, H1, i1.ofTry gd, q1⟩
    | brk => obtain ⟨σ1, H1, i1, q1⟩ := q; exact ⟨σ1, H1, i1.ofTry gd, q1⟩
    | cont => obtain ⟨σ1, H1, i1, q1⟩ := q; exact ⟨σ1, H1, i1.ofTry gd, q1⟩
    | ret u => obtain ⟨v, σ1, H1, i1, r1, q1⟩ := q; exact ⟨v, σ1, H1, i1.ofTry gd, r1, q1⟩
end
/-! ### by data -/
def clH (tab : Str → Str → Option Bool) : List (Str × Option Nat × DS) → Str → List Str → List D → DEnv → SO
  | [], cn, ns, ds, δ => .ex cn ns ds δ
  | (h, o, s) :: r, cn, ns, ds, δ => match tab cn h with
    | some true => (match o with
      | none => (match s δ with
        | .ex _ _ _ _ => .st
        | o => o)
      | some i => if (freeS i δ && noX δ) = true then (match s (δ.set i (slX cn ns ds)) with
        | .nx δ2 => dropX i .nx δ2
        | .rt d δ2 => dropX i (.rt d) δ2
        | .ro d δ2 => dropX i (.ro d) δ2
        | .bk δ2 => dropX i .bk δ2
        | .ct δ2 => dropX i .ct δ2
        | _ => .st) else .st)
    | some false => clH tab r cn ns ds δ
    | none => .st
def sTryCl (tab : Str → Str → Option Bool) (f : DS) (hs : List (Str × Option Nat × DS)) : DS := fun δ => match f δ with
  | .ex cn ns ds δ1 => clH tab hs cn ns ds δ1
  | o => o
inductive ClD (c : Cf) (X : Cx) (tab : Str → Str → Option Bool) : List ExceptHandler → List (Str × Option Nat × DS) → List Cl → Prop
  | nul : ClD c X tab [] [] []
  | plain {y : Str} {C : Addr} {b0 : Stmt} {su : List Stmt} {np p' : Pos} {hds : List ExceptHandler} {hs : List (Str × Option Nat × DS)} {l : List Cl} {f : DS}
      (hc : Names X y (.ref C)) (hcl : c.cl y = some C) (h : ∀ (a : Addr) (oe : Obj) (cls : Value) (d : Option Addr) (pn : List (Addr × Obj)), Zc cls d oe → JSs ⟨fun _ _ _ _ => False, c.cl, c.hx⟩ (X.suite a ((a, oe) :: pn)) (b0 :: su) f) (r : ClD c X tab hds hs l) :
      ClD c X tab (.ExceptHandler (some (.Name y np)) none (b0 :: su) p' :: hds) ((y, none, f) :: hs) ((.ref C, none, fun a cls d D σ H => ∀ oe pn, Zc cls d oe → (∃ vs, oe.data = .fields vs) → tSs (X.suite a ((a, oe) :: pn)) (b0 :: su) D σ H) :: l)
  | named {y n : Str} {i : Nat} {C : Addr} {b0 : Stmt} {su : List Stmt} {np p' : Pos} {hds : List ExceptHandler} {hs : List (Str × Option Nat × DS)} {l : List Cl} {f : DS}
      (hc : Names X y (.ref C)) (hcl : c.cl y = some C) (hN : X.N.Nodup) (hi : X.N[i]? = some n) (hk : X.env.kindOf n = some NameKind.local)
      (h : ∀ (a : Addr) (oe : Obj) (cls : Value) (d : Option Addr) (pn : List (Addr × Obj)), Zc cls d oe → (∃ vs, oe.data = .fields vs) → (∃ cn A, tab cn y = some true ∧ c.cl cn = some A ∧ cls = .ref A) → JSs ⟨fun _ _ _ _ => False, c.cl, (a, d)⟩ (X.suite a ((a, oe) :: pn)) (b0 :: su) f) (r : ClD c X tab hds hs l) :
      ClD c X tab (.ExceptHandler (some (.Name y np)) (some n) (b0 :: su) p' :: hds) ((y, some i, f) :: hs) ((.ref C, some i, fun a cls d D σ H => ∀ oe pn, Zc cls d oe → (∃ vs, oe.data = .fields vs) → tSs (X.suite a ((a, oe) :: pn)) (b0 :: su) D σ H) :: l)
section
variable {c : Cf} {X : Cx} {tab : Str → Str → Option Bool}
theorem ClD.ok {hds : List ExceptHandler} {hs : List (Str × Option Nat × DS)} {l : List Cl} (h : ClD c X tab hds hs l) : ClOk X hds l := by
  induction h with
  | nul => exact .nul
  | plain hc hcl hsu r ih => exact .plain hc (fun a oe cls d pn z hf => ⟨fun pins s σ H D I q => q oe pn z hf pins s I⟩) ih
  | named hc hcl hN hi hk hsu r ih => exact .named hc hN hi hk (fun a oe cls d pn z hf => ⟨fun pins s σ H D I q => q oe pn z hf pins s I⟩) ih
theorem ClD.wish (ht : ExmTab X.K c.cl tab) {hds : List ExceptHandler} {hs : List (Str × Option Nat × DS)} {l : List Cl} (h : ClD c X tab hds hs l) {R : List (Nat × Addr)} {H0 G0 H G : Hp} {σ : L2.St} {δ : DEnv} {D' : Ends} {cn : Str} {ns : List Str} {ds : List D} {cls : Value} {dd : Option Addr}
    (k : (c.fx X R H0 G0).Ok H G σ δ) (xo : XOk X.K c.cl G cn ns ds cls dd) (q : SPost (c.fx X R H0 G0) c.W G (clH tab hs cn ns ds δ) D') : wCl X.K c.W D' l cls dd σ H := by
  obtain ⟨A, rfl, hA, xr⟩ := xo
  induction h with
  | nul => exact q (.ref A) dd σ H G (.refl G) k ⟨A, rfl, hA, xr⟩
  | @plain y C b0 su np p' hds hs l f hc hcl hsu r ih =>
    unfold clH at q
    cases e : tab cn y with
    | none => rw [e] at q; exact q.elim
    | some b =>
      rw [e] at q
      refine ⟨b, ht cn y b A C e hA hcl, fun hb a na => ?_, fun hb => ?_⟩
      · subst hb
        dsimp only at q
        intro oe pn z hf
        refine hsu a oe (.ref A) dd pn z R H0 G0 H G σ δ D' k ?_
        cases e2 : f δ with
        | ex _ _ _ _ => rw [e2] at q; exact q.elim
        | nx _ => rw [e2] at q; exact q
        | rt _ _ => rw [e2] at q; exact q
        | ro _ _ => rw [e2] at q; exact q
        | bk _ => rw [e2] at q; exact q
        | ct _ => rw [e2] at q; exact q
        | st => rw [e2] at q; exact q
      · subst hb
        exact ih q
  | @named y n i C b0 su np p' hds hs l g hc hcl hN hi hk hsu r ih =>
    unfold clH at q
    cases e : tab cn y with
    | none => rw [e] at q; exact q.elim
    | some b =>
      rw [e] at q
      refine ⟨b, ht cn y b A C e hA hcl, fun hb a na => ?_, fun hb => ?_⟩
      · subst hb
        dsimp only at q
        by_cases hq : (freeS i δ && noX δ) = true
        · rw [if_pos hq] at q
          obtain ⟨hf, hx⟩ := Bool.and_eq_true_iff.mp hq
          intro oe pn z hv
          obtain ⟨s0, e0, o0, hn⟩ := freeS_at hf
          have kx : Ok X.K c.cl (a, dd) R H0 G0 H G σ δ := k.rehx hx
          have ks : Ok X.K c.cl (a, dd) R H0 G0 H G (σ.set i (some (.ref a))) (δ.set i (slX cn ns ds)) := by
            refine kx.set e0 hn ?_ (fun d z => by cases z) fun b hb => by cases hb
            exact ⟨rfl, xr⟩
          refine hsu a oe (.ref A) dd pn z hv ⟨cn, A, e, hA, rfl⟩ R H0 G0 H G _ _ _ ks ?_
          have ne := spost_ne q
          have back : ∀ {H2 G2 : Hp} {σ2 : L2.St} {δ2 : DEnv}, freeS i δ2 = true → noX (δ2.set i .un) = true → Ok X.K c.cl (a, dd) R H0 G0 H2 G2 σ2 δ2 → Ok X.K c.cl c.hx R H0 G0 H2 G2 (σ2.set i none) (δ2.set i .un) := fun f1 f2 k2 => (k2.drop f1).rehx f2
          cases eg : g (δ.set i (slX cn ns ds)) with
          | nx δ2 =>
            rw [eg] at q ne
            dsimp only at q ne
            obtain ⟨f1, f2, f3⟩ := dropX_st ne
            rw [f3] at q
            exact fun σ2 H2 G2 s2 k2 => q _ H2 G2 s2 (back f1 f2 k2)
          | rt d δ2 =>
            rw [eg] at q ne
            dsimp only at q ne
            obtain ⟨f1, f2, f3⟩ := dropX_st ne
            rw [f3] at q
            exact fun v σ2 H2 G2 s2 k2 r2 => q v _ H2 G2 s2 (back f1 f2 k2) r2
          | ro d δ2 =>
            rw [eg] at q ne
            dsimp only at q ne
            obtain ⟨f1, f2, f3⟩ := dropX_st ne
            rw [f3] at q
            exact fun v σ2 H2 G2 s2 k2 r2 => q v _ H2 G2 s2 (back f1 f2 k2) r2
          | bk δ2 =>
            rw [eg] at q ne
            dsimp only at q ne
            obtain ⟨f1, f2, f3⟩ := dropX_st ne
            rw [f3] at q
            exact fun σ2 H2 G2 s2 k2 => q _ H2 G2 s2 (back f1 f2 k2)
          | ct δ2 =>
            rw [eg] at q ne
            dsimp only at q ne
            obtain ⟨f1, f2, f3⟩ := dropX_st ne
            rw [f3] at q
            exact fun σ2 H2 G2 s2 k2 => q _ H2 G2 s2 (back f1 f2 k2)
          | ex _ _ _ _ => rw [eg] at ne; exact absurd rfl ne
          | st => rw [eg] at ne; exact absurd rfl ne
        · rw [if_neg hq] at q; exact q.elim
      · subst hb
        exact ih q
theorem clN : ∃ l, ClD c X tab [] [] l := ⟨_, .nul⟩
theorem clP {y : Str} {b0 : Stmt} {su : List Stmt} {np p' : Pos} {hds : List ExceptHandler} {hs : List (Str × Option Nat × DS)} {f : DS} (T : ∃ C, c.cl y = some C ∧ X.mg y = some (.ref C))
    (hsu : ∀ (C : Addr) (a : Addr) (oe : Obj) (cls : Value) (d : Option Addr) (pn : List (Addr × Obj)), JSs ⟨fun _ _ _ _ => False, c.cl, c.hx⟩ (X.suite a ((a, oe) :: pn)) (b0 :: su) f) (r : ∃ l, ClD c X tab hds hs l) (hg : Gl X y := by rfl) (hdb : (y == ("__debug__" : Str)) = false := by decide) :
    ∃ l, ClD c X tab (.ExceptHandler (some (.Name y np)) none (b0 :: su) p' :: hds) ((y, none, f) :: hs) l := by
  obtain ⟨C, e1, e2⟩ := T
  obtain ⟨l, r⟩ := r
  exact ⟨_, .plain ⟨hg, hdb, .inl e2⟩ e1 (fun a oe cls d pn _ => hsu C a oe cls d pn) r⟩
theorem clA {y n : Str} {i : Nat} {b0 : Stmt} {su : List Stmt} {np p' : Pos} {hds : List ExceptHandler} {hs : List (Str × Option Nat × DS)} {f : DS} (T : ∃ C, c.cl y = some C ∧ X.mg y = some (.ref C)) (hN : X.N.Nodup)
    (hsu : ∀ (a : Addr) (oe : Obj) (cls : Value) (d : Option Addr) (pn : List (Addr × Obj)), Zc cls d oe → (∃ vs, oe.data = .fields vs) → (∃ cn A, tab cn y = some true ∧ c.cl cn = some A ∧ cls = .ref A) → JSs ⟨fun _ _ _ _ => False, c.cl, (a, d)⟩ (X.suite a ((a, oe) :: pn)) (b0 :: su) f) (r : ∃ l, ClD c X tab hds hs l)
    (hi : X.N[i]? = some n := by rfl) (hk : X.env.kindOf n = some NameKind.local := by rfl) (hg : Gl X y := by rfl) (hdb : (y == ("__debug__" : Str)) = false := by decide) :
    ∃ l, ClD c X tab (.ExceptHandler (some (.Name y np)) (some n) (b0 :: su) p' :: hds) ((y, some i, f) :: hs) l := by
  obtain ⟨C, e1, e2⟩ := T
  obtain ⟨l, r⟩ := r
  exact ⟨_, .named ⟨hg, hdb, .inl e2⟩ e1 hN hi hk hsu r⟩
theorem js_tryCl {pos : Pos} (ht : ExmTab X.K c.cl tab) {body : List Stmt} {h0 : ExceptHandler} {hds : List ExceptHandler} {hs : List (Str × Option Nat × DS)} {f : DS}
    (hst : X.stack = X.env :: X.outer) (hfr : X.env.frame = some X.env.locals) (tk : Takes X c.W)
    (hb : ∀ (W : WX) (pn : List (Addr × Obj)) (xe : Value → Shared → Prop), Takes (X.tr pn xe) W → PassesOwn (model X.prog X.w) X.A X.env xe → JSs ⟨W, c.cl, c.hx⟩ (X.tr pn xe) body f)
    (hh : ∃ l, ClD c X tab (h0 :: hds) hs l) : JS c X (.Try body (h0 :: hds) [] [] pos) (sTryCl tab f hs) := by
  obtain ⟨l, hh⟩ := hh
  refine js_of (ps_tryCl (tb := fun W D σ H => ∀ pn xe, Takes (X.tr pn xe) W → PassesOwn (model X.prog X.w) X.A X.env xe → tSs (X.tr pn xe) body D σ H) hst hfr tk (fun W pn xe h1 h2 => ⟨fun pins s σ H D I h => h pn xe h1 h2 pins s I⟩) hh.ok) fun R H0 G0 H G σ δ D' k h => ?_
  intro pn xe h1 h2
  refine hb _ pn xe h1 h2 R H0 G0 H G σ δ D' k ?_
  unfold sTryCl at h
  cases e : f δ with
  | ex cn ns ds δ1 =>
    rw [e] at h
    dsimp only at h
    exact fun cls dd σ' H' G' s' k' xo => hh.wish ht k' xo (SPost.weak s' h)
  | nx _ => rw [e] at h; exact h
  | rt _ _ => rw [e] at h; exact h
  | ro _ _ => rw [e] at h; exact h
  | bk _ => rw [e] at h; exact h
  | ct _ => rw [e] at h; exact h
  | st => rw [e] at h; exact h
end
/-! ### reckoning -/
def tryClK (tab : Str → Str → Option Bool) (hs : List (Str × Option Nat × DS)) : SO → SO
  | .ex cn ns ds δ => clH tab hs cn ns ds δ
  | o => o
def clT (i : Nat) : SO → SO
  | .nx δ2 => dropX i .nx δ2
  | .rt d δ2 => dropX i (.rt d) δ2
  | .ro d δ2 => dropX i (.ro d) δ2
  | .bk δ2 => dropX i .bk δ2
  | .ct δ2 => dropX i .ct δ2
  | _ => .st
def clI (i : Nat) (s : DS) (cn : Str) (ns : List Str) (ds : List D) (δ : DEnv) : Bool → SO
  | true => clT i (s (δ.set i (slX cn ns ds)))
  | false => .st
def clK (tab : Str → Str → Option Bool) (s : DS) (r : List (Str × Option Nat × DS)) (cn : Str) (ns : List Str) (ds : List D) (δ : DEnv) : Option Nat → Option Bool → SO
  | none, some true => hdS (s δ)
  | some i, some true => clI i s cn ns ds δ (freeS i δ && noX δ)
  | _, some false => clH tab r cn ns ds δ
  | _, none => .st
section
variable (tab : Str → Str → Option Bool) (hs r : List (Str × Option Nat × DS)) (f s : DS) (δ : DEnv) (d : D) (h cn : Str) (ns : List Str) (ds : List D) (o : Option Nat) (i : Nat)
theorem a_tryCl : sTryCl tab f hs δ = tryClK tab hs (f δ) := by unfold sTryCl tryClK; cases f δ <;> rfl
theorem a_tryClK_0 : tryClK tab hs (.nx δ) = .nx δ := rfl
theorem a_tryClK_2 : tryClK tab hs (.ex cn ns ds δ) = clH tab hs cn ns ds δ := rfl
theorem a_clH_1 : clH tab ((h, o, s) :: r) cn ns ds δ = clK tab s r cn ns ds δ o (tab cn h) := by
  show (match tab cn h with | some true => _ | some false => _ | none => _) = _
  cases tab cn h with
  | none => cases o <;> rfl
  | some b =>
    cases b with
    | false => cases o <;> rfl
    | true =>
      cases o with
      | none => show (match s δ with | .ex _ _ _ _ => SO.st | o => o) = hdS (s δ); cases s δ <;> rfl
      | some i =>
        show (if (freeS i δ && noX δ) = true then _ else SO.st) = clI i s cn ns ds δ (freeS i δ && noX δ)
        cases (freeS i δ && noX δ) with
        | false => rfl
        | true =>
          rw [if_pos rfl]
          show (match s (δ.set i (slX cn ns ds)) with | .nx δ2 => _ | .rt d δ2 => _ | .ro d δ2 => _ | .bk δ2 => _ | .ct δ2 => _ | _ => SO.st) = clT i (s (δ.set i (slX cn ns ds)))
          cases s (δ.set i (slX cn ns ds)) <;> rfl
theorem a_clK_1 : clK tab s r cn ns ds δ (some i) (some true) = clI i s cn ns ds δ (freeS i δ && noX δ) := rfl
end
end DL

set_option maxRecDepth 100000
set_option maxHeartbeats 4000000
namespace DL
open PySem PySem.Spec PyProof.Rows L2
/-! ### a list of one's own is walked and stays one's own -/
def backO : DEnv → DEnv → DEnv
  | .own _ :: r, .rf d :: r2 => .own d :: backO r r2
  | _ :: r, s :: r2 => s :: backO r r2
  | [], l => l
  | _ :: _, [] => []
def bkS : Sl → Sl → Sl
  | .own _, .rf d => .own d
  | _, s => s
theorem backO_cons (s t : Sl) (r r2 : DEnv) : backO (s :: r) (t :: r2) = bkS s t :: backO r r2 := by cases s <;> cases t <;> rfl
theorem backO_len : ∀ δ δ2 : DEnv, (backO δ δ2).length = δ2.length
  | [], l => by cases l <;> rfl
  | s :: r, [] => by cases s <;> rfl
  | s :: r, t :: r2 => by rw [backO_cons, List.length_cons, List.length_cons, backO_len r r2]
theorem backO_at : ∀ (δ δ2 : DEnv) (i : Nat) {s t : Sl}, δ[i]? = some s → δ2[i]? = some t → (backO δ δ2)[i]? = some (bkS s t)
  | s :: r, t :: r2, 0, _, _, e1, e2 => by cases e1; cases e2; rw [backO_cons]; rfl
  | s :: r, t :: r2, i + 1, _, _, e1, e2 => by rw [backO_cons]; exact backO_at r r2 i e1 e2
  | [], _, _, _, _, e1, _ => by simp at e1
  | _ :: _, [], _, _, _, _, e2 => by simp at e2
section
variable {K : PySem.W.Frag} {cl : Cw} {hx : Addr × Option Addr} {R : List (Nat × Addr)} {H0 G0 H G H' G' : Hp} {σ σ2 : L2.St} {δ δ2 : DEnv}
theorem Ok.fresh0 (k : Ok K cl hx R H0 G0 H G σ δ) {b : Addr} (hb : H b = none) : H0 b = none := by
  cases q : H0 b with
  | none => rfl
  | some u =>
    by_cases hm : ∃ p ∈ R, p.2 = b
    · obtain ⟨p, hp, rfl⟩ := hm
      obtain ⟨d, e1, e2⟩ := k.refs p hp
      obtain ⟨a, z, _, w⟩ := k.sl _ _ _ e1 e2
      cases z
      obtain ⟨v, hv⟩ := w.ex
      rw [hb] at hv; cases hv
    · have := k.kept b u q fun p hp e => hm ⟨p, hp, e⟩
      rw [hb] at this; cases this
theorem isO_bk {s t : Sl} : isO (bkS s t) = isO t := by cases s <;> cases t <;> rfl
/-- behind such a walk: what was lent is one's own again -/
theorem Ok.outer (k : Ok K cl hx R H0 G0 H G σ δ) (hl : δ2.length = δ.length) (k2 : Ok K cl hx (refsOf σ δ) H G H' G' σ2 δ2) : Ok K cl hx R H0 G0 H' G' σ2 (backO δ δ2) := by
  have at_ : ∀ {i : Nat} {u : Sl}, (backO δ δ2)[i]? = some u → ∃ s t, δ[i]? = some s ∧ δ2[i]? = some t ∧ u = bkS s t := fun {i u} e => by
    have hi2 : i < δ2.length := by rw [← backO_len δ δ2]; exact (List.getElem?_eq_some_iff.mp e).1
    have hi : i < δ.length := by omega
    have := backO_at δ δ2 i (List.getElem?_eq_getElem hi) (List.getElem?_eq_getElem hi2)
    rw [e] at this
    exact ⟨_, _, List.getElem?_eq_getElem hi, List.getElem?_eq_getElem hi2, Option.some.inj this⟩
  have inR : ∀ p ∈ R, p ∈ refsOf σ δ := fun p hp => by
    obtain ⟨d, e1, e2⟩ := k.refs p hp
    exact mem_refsOf.mpr ⟨_, e1, rfl, e2⟩
  refine ⟨by rw [backO_len]; exact k2.len, k2.sub, k.ext.trans k2.ext, fun b o e => ?_, fun b o e hR => ?_, fun p hp => ⟨(k.rfree p hp).1, (k2.rfree p (inR p hp)).2⟩, fun i u x e1 e2 => ?_, fun i j u v a e1 e2 o1 o2 s1 s2 => ?_, fun p hp => ?_, fun i d e => ?_⟩
  · rcases k2.new b o e with z | z
    · exact k.new b o z
    · exact .inr (k.fresh0 z)
  · refine k2.kept b o (k.kept b o e hR) fun p hp z => ?_
    subst z
    obtain ⟨s, e1, o1, e2⟩ := mem_refsOf.mp hp
    cases s with
    | own d =>
      obtain ⟨a, z, _, h0, _⟩ := k.sl _ _ _ e1 e2
      cases z
      rw [h0] at e; cases e
    | rf d =>
      obtain ⟨q, hq, z⟩ := k.rfs p.1 d e1
      obtain ⟨d', e4, e5⟩ := k.refs q hq
      rw [z, e2] at e5
      have e6 := Option.some.inj (Option.some.inj e5)
      injection e6 with e7
      exact hR q hq e7.symm
    | un => cases o1
    | val d => cases o1
    | exc c ns ds => cases o1
  · obtain ⟨s, t, f1, f2, rfl⟩ := at_ e1
    have q := k2.sl i t x f2 e2
    cases t with
    | un => cases s <;> trivial
    | val d => cases s <;> exact q
    | own d =>
      obtain ⟨a, q1, q2, q3, q4⟩ := q
      have z : SlOk K cl hx H0 H' G' x (.own d) := ⟨a, q1, q2, k.fresh0 q3, q4⟩
      cases s <;> exact z
    | exc c ns ds => cases s <;> exact q
    | rf d =>
      cases s with
      | own d0 =>
        obtain ⟨a, q1, q2, q4⟩ := q
        subst q1
        obtain ⟨p, hp, hpi⟩ := k2.rfs i d f2
        obtain ⟨d', g1, g2⟩ := k2.refs p hp
        rw [hpi, e2] at g2
        cases g2
        obtain ⟨s', g3, _, g4⟩ := mem_refsOf.mp hp
        rw [hpi] at g3 g4
        rw [f1] at g3
        cases g3
        obtain ⟨a', z, _, h0, _⟩ := k.sl i _ _ f1 g4
        cases z
        exact ⟨_, rfl, q2, h0, q4⟩
      | _ => exact q
  · obtain ⟨s, t, f1, f2, rfl⟩ := at_ e1
    obtain ⟨s', t', f3, f4, rfl⟩ := at_ e2
    rw [isO_bk] at o1 o2
    exact k2.sep i j t t' a f2 f4 o1 o2 s1 s2
  · obtain ⟨d, e1, e2⟩ := k.refs p hp
    obtain ⟨d', g1, g2⟩ := k2.refs p (inR p hp)
    exact ⟨d', by rw [backO_at δ δ2 p.1 e1 g1]; rfl, g2⟩
  · obtain ⟨s, t, f1, f2, q⟩ := at_ e
    cases t with
    | rf d' =>
      obtain ⟨p, hp, hpi⟩ := k2.rfs i d' f2
      obtain ⟨s', g3, o3, g4⟩ := mem_refsOf.mp hp
      rw [hpi, f1] at g3
      cases g3
      cases s with
      | rf d0 => exact k.rfs i d0 f1
      | own d0 => cases q
      | un => cases o3
      | val d0 => cases o3
      | exc c ns ds => cases o3
    | _ => cases s <;> cases q
end
section
variable {c : Cf} {X : Cx} {tg e : Expr} {pos : Pos}
/-! ### [elt for target in x if ..] over a list of one's own -/
def cnt (δ : DEnv) (j : Nat) : Option D := δ[j]?.bind Sl.cont
noncomputable def tC (j : Nat) (ds : List D) (t : DT) : DT := open Classical in fun δ => match t δ with
  | .ok b δ2 => if cnt δ2 j = some (.lst ds) then .ok b δ2 else .st
  | o => o
end
/-! ### reckoning -/
end DL

set_option maxRecDepth 100000
set_option maxHeartbeats 4000000
namespace DL
open PySem PySem.Spec PyProof.Rows L2
/-! ### f(a, .., k = v): the last parameter by its name -/
section
variable {c : Cf} {X : Cx} {CX' : CXT} {k n : Nat} {f : Addr} {fd : FuncData} {ps ks : List Str} {sp : Sp} {x : Str} {p pos : Pos} {e : Expr} {es : List Expr} {kws : List Keyword} {t tk : TA} {g : List Value → List Value → List Value} {gV : List V → List V → List V}
end
theorem AvL.len {K : PySem.W.Frag} {cl : Cw} {σ : L2.St} {G : Hp} : ∀ {vs : List V} {as : List AV}, AvL K cl σ G vs as → vs.length = as.length
  | _, _, .nil => rfl
  | _, _, .cons _ t => congrArg (· + 1) (AvL.len t)
section
variable {c : Cf} {X : Cx} {e ke : Expr} {es : List Expr} {fs : DA} {fk : DE} {p pos kpos : Pos} {k n : Nat} {x kn : Str} {ks : List Bool} {fn : List D → FO}
end
/-! ### reckoning -/
end DL

set_option maxRecDepth 100000
set_option maxHeartbeats 4000000
namespace DL
open PySem PySem.Spec PyProof.Rows L2
/-! ### max of a list of whole numbers; (x, ..) * n -/
section
variable {K : PySem.W.Frag} {cl : Cw}
end
section
variable {c : Cf} {X : Cx} {e a b : Expr} {es : List Expr} {fs : DA} {fa fb : DE} {p pos : Pos}
end
end DL

set_option maxRecDepth 100000
set_option maxHeartbeats 4000000
namespace DL
open PySem PySem.Spec PyProof.Rows L2
/-! ### list(zip(x, l)) of a text and a list, of whatever lengths -/
section
variable {prog : Program} {w : World} {A : Around} {E : Value → Shared → Prop} {s : Shared}
section
variable {R : Result → Shared → Prop} {z TI TO i1 i2 Sl : Addr} {wr : List Addr} {n : Nat} {P : Nat → Value → Value → Prop} {St : Nat → Heap → Prop}
end
end
section
variable {X : Cx}
end

section
variable {X : Cx} {e e2 : Expr} {t : TA} {p p2 q pos : Pos}
end
section
variable {K : PySem.W.Frag} {cl : Cw}
end
section
variable {c : Cf} {X : Cx} {e e2 : Expr} {fs : DA} {p p2 q pos : Pos}
end
end DL

set_option maxRecDepth 100000
set_option maxHeartbeats 4000000
namespace DL
open PySem PySem.Spec PyProof.Rows L2
/-! ### {k: v, ..} of constants: a new dict -/
inductive CPs (X : Cx) : List (Option Expr) → List Expr → List Key → List D → List (TE × TE) → Prop where
  | nil : CPs X [] [] [] [] []
  | cons {k v : Expr} {key : Key} {x : V} {d : D} {ks : List (Option Expr)} {vs : List Expr} {keys : List Key} {ds : List D} {trs : List (TE × TE)} (a : PE X k (L2.tC (kV key))) (b : PE X v (L2.tC x)) (r : ∀ K cl G, Rep K cl G x d) (t : CPs X ks vs keys ds trs) :
    CPs X (some k :: ks) (v :: vs) (key :: keys) (d :: ds) ((L2.tC (kV key), L2.tC x) :: trs)
section
variable {X : Cx} {pos : Pos} {kes : List (Option Expr)} {ves : List Expr} {keys : List Key} {ds : List D} {trs : List (TE × TE)}
end
section
variable {c : Cf} {X : Cx} {pos : Pos} {kes : List (Option Expr)} {ves : List Expr} {keys : List Key} {ds : List D} {trs : List (TE × TE)}
end
end DL

set_option maxRecDepth 100000
set_option maxHeartbeats 4000000
namespace DL
open PySem PySem.Spec PyProof.Rows L2
/-! ### len(x) by an own class; d[k] of a dict that an expression tells -/
section
variable {c : Cf} {X : Cx} {k : Nat}
end
section
variable {c : Cf} {X : Cx} {p pos : Pos} {a b e : Expr} {es : List Expr} {fa fb : DE} {fs : DA} {k : Nat} {cn : Str} {fn : List D → FO}
end
/-! ### reckoning -/
end DL

set_option maxRecDepth 100000
set_option maxHeartbeats 4000000
namespace DL
open PySem PySem.Spec PyProof.Rows L2
/-! ### list(t) of a tuple as the program keeps it in a field -/
section
variable {K : PySem.W.Frag} {cl : Cw}
end
section
variable {c : Cf} {X : Cx} {e : Expr} {es : List Expr} {fs : DA} {p pos : Pos}
end
end DL

set_option maxRecDepth 100000
set_option maxHeartbeats 4000000
namespace DL
open PySem PySem.Spec PyProof.Rows L2
/-! ### a tuple of texts that a module's name holds -/
def KTp (K : PySem.W.Frag) (a : Addr) (xs : List Str) : Prop := ∃ (o : Obj) (its : Array Value) (n : Nat), K.lookup a = some o ∧ o.cls = .type "tuple" ∧ o.data = .seq its n ∧ its.size ≤ sizeLine ∧ Vals (xs.map V.str) its.toList
def strsB : List Value → List Str → Bool
  | [], [] => true
  | .str x _ :: vs, y :: ys => decide (x = y) && strsB vs ys
  | _, _ => false
theorem strsB_ok : ∀ {vs : List Value} {xs : List Str}, strsB vs xs = true → Vals (xs.map V.str) vs
  | [], [], _ => .nil
  | [], _ :: _, h => by cases h
  | v :: _, [], h => by cases v <;> cases h
  | v :: vs, y :: ys, h => by
    cases v with
    | str x t =>
      have h : (decide (x = y) && strsB vs ys) = true := h
      rw [Bool.and_eq_true] at h
      have e := of_decide_eq_true h.1
      subst e
      exact .cons ⟨t, rfl⟩ (strsB_ok h.2)
    | _ => cases h
def ktpB (K : PySem.W.Frag) (a : Addr) (xs : List Str) : Bool := match K.lookup a with
  | some o => (match o.data with
    | .seq its _ => decide (o.cls = .type "tuple") && (decide (its.size ≤ sizeLine) && strsB its.toList xs)
    | _ => false)
  | none => false
theorem ktp_of {K : PySem.W.Frag} {a : Addr} {xs : List Str} (h : ktpB K a xs = true) : KTp K a xs := by
  unfold ktpB at h
  cases q : K.lookup a with
  | none => rw [q] at h; cases h
  | some o =>
    rw [q] at h
    simp only at h
    cases q2 : o.data with
    | seq its n =>
      rw [q2] at h
      simp only [Bool.and_eq_true] at h
      exact ⟨o, its, n, q, of_decide_eq_true h.1, q2, of_decide_eq_true h.2.1, strsB_ok h.2.2⟩
    | _ => rw [q2] at h; cases h
theorem rep_strsT (K : PySem.W.Frag) (cl : Cw) (G : Hp) : ∀ xs : List Str, RepL K cl G (xs.map V.str) (xs.map D.str)
  | [] => .nil
  | x :: xs => .cons (.str x) (rep_strsT K cl G xs)
section
variable {c : Cf} {X : Cx} {x : Str} {p : Pos} {xs : List Str}
theorem je_gtup (T : ∃ a, X.mg x = some (.ref a) ∧ KTp X.K a xs) (hg : Gl X x := by rfl) (hd : (x == ("__debug__" : Str)) = false := by decide) : JE c X (.Name x p) (dC (.tup (xs.map D.str))) := by
  obtain ⟨a, m, o, its, n, l1, l2, l3, l4, l5⟩ := T
  exact je_c (v := .ref a) (pe_glob hg m rfl hd) fun G => .tup (.inr ⟨o, its, n, l1, l2, l3, l4, l5⟩) (rep_strsT _ _ _ xs)
end
end DL

set_option maxRecDepth 100000
set_option maxHeartbeats 4000000
namespace DL
open PySem PySem.Spec PyProof.Rows L2
/-! ### a star in a written list: [*a, e] -/
def itsD0 : D → Option (List D)
  | .lst ds => some ds
  | .tup ds => some ds
  | .tpn ds => some ds
  | _ => none
theorem seq_of {K : PySem.W.Frag} {cl : Cw} {G : Hp} {v : V} {d : D} {ds : List D} (r : Rep K cl G v d) (e : itsD0 d = some ds) : ∃ a xs, v = .ref a ∧ (SqT K G a xs ∨ SqL K G a xs) ∧ RepL K cl G xs ds := by
  cases r with
  | @lst a xs _ h1 h2 => cases e; exact ⟨a, xs, rfl, .inr (.inl (.inl h1)), h2⟩
  | @tup a xs _ h1 h2 => cases e; exact ⟨a, xs, rfl, .inl h1, h2⟩
  | @tpn a ob xs _ h0 _ _ h2 => cases e; exact ⟨a, xs, rfl, .inl (.inl (.inr ⟨ob, h0⟩)), h2⟩
  | _ => cases e
section
variable {c : Cf} {X : Cx} {e : Expr} {es : List Expr} {fe : DE} {fs : DA} {p : Pos}
end
/-! ### text.find(x) of a written text -/
def gFind (a : Str) : D → Option D
  | .str b => some (.int (Txt.find a b))
  | _ => none
section
variable {c : Cf} {X : Cx} {e : Expr} {fe : DE} {p apos cpos : Pos} {a : Str} {j : Nat}
theorem je_findC (he : JE c X e fe)
    (hbase : attributeBase (.Constant (.str a) j p) "find" X.env (eval (.Constant (.str a) j p) X.env) = eval (.Constant (.str a) j p) X.env := by rfl)
    (hfew : ((backTo cpos (starEach [e] X.env)).all (fun x => !x.1) && (backToKw cpos (keywordEach [] X.env)).all (fun x => x.1.isSome)
      && decide ([e].length + ([] : List Keyword).length + (if ([] : List Keyword).isEmpty then 0 else 1) < 30)) = true := by rfl)
    (hline : (apos.endLine == cpos.line) = true := by rfl) (hs : starEach [e] X.env = (false, eval e X.env) :: starEach [] X.env := by rfl) (hplain : (backTo cpos (starEach [] X.env)).any (·.1) = false := by rfl) :
    JE c X (.Call (.Attribute (.Constant (.str a) j p) "find" apos) [e] [] cpos) (dUn (gFind a) fe) :=
  je_of (pe_bm PySem.F.plainAttrs_str PySem.F.slot_str_find PySem.F.type_str_find mt_find pe_str (pa_cons (peS X e) pa_nil hs) hbase hfew hline hs hplain) fun R H0 G0 H G σ δ Q k h => by
    refine ⟨rfl, ?_⟩
    refine he R H0 G0 H G σ δ _ k (EPost.imp (EPost.bind h) fun x H1 ⟨G1, d, δ1, s1, k1, r1, h1⟩ => ?_)
    cases r1 with
    | str b => exact ⟨a, b, rfl, rfl, h1 _ H1 G1 (.refl G1) k1 (.int _)⟩
    | _ => exact h1.elim
end
/-! ### constants of the module, tuples within one another -/
def KV1 (K : PySem.W.Frag) (u : Value) (d : D) : Prop := ∃ v, RelV v u ∧ ∀ cl G, Rep K cl G v d
def kvsB (f : Value → D → Bool) : List Value → List D → Bool
  | [], [] => true
  | v :: vs, d :: ds => f v d && kvsB f vs ds
  | _, _ => false
def kvB (K : PySem.W.Frag) : Nat → Value → D → Bool
  | _, .none, .non => true
  | _, .bool b, .bl c => b == c
  | _, .int i _, .int j => decide (i = j)
  | _, .str x _, .str y => decide (x = y)
  | n + 1, .ref a, .tup ds => (match K.lookup a with
    | some o => (match o.data with
      | .seq its _ => decide (o.cls = .type "tuple") && (decide (its.size ≤ sizeLine) && kvsB (kvB K n) its.toList ds)
      | _ => false)
    | none => false)
  | _, _, _ => false
theorem kvs_ok {K : PySem.W.Frag} {f : Value → D → Bool} (hf : ∀ v d, f v d = true → KV1 K v d) : ∀ {vs : List Value} {ds : List D}, kvsB f vs ds = true → ∃ xs, Vals xs vs ∧ ∀ cl G, RepL K cl G xs ds
  | [], [], _ => ⟨[], .nil, fun _ _ => .nil⟩
  | [], _ :: _, h => by cases h
  | _ :: _, [], h => by cases h
  | v :: vs, d :: ds, h => by
    have h : (f v d && kvsB f vs ds) = true := h
    rw [Bool.and_eq_true] at h
    obtain ⟨x, r, p⟩ := hf _ _ h.1
    obtain ⟨xs, rs, ps⟩ := kvs_ok hf h.2
    exact ⟨x :: xs, .cons r rs, fun cl G => .cons (p cl G) (ps cl G)⟩
theorem kv_ok {K : PySem.W.Frag} : ∀ {n : Nat} {v : Value} {d : D}, kvB K n v d = true → KV1 K v d := by
  intro n
  induction n with
  | zero =>
    intro v d h
    cases v <;> cases d <;> first | (exfalso; simp [kvB] at h; done) | skip
    · exact ⟨.non, rfl, fun _ _ => .non⟩
    · rename_i b c
      have e : (b == c) = true := by simpa [kvB] using h
      have := eq_of_beq e
      subst this
      exact ⟨.bl b, rfl, fun _ _ => .bl _⟩
    · rename_i i t j
      have e : i = j := by simpa [kvB] using h
      subst e
      exact ⟨.int i, ⟨t, rfl⟩, fun _ _ => .int _⟩
    · rename_i i t j
      have e : i = j := by simpa [kvB] using h
      subst e
      exact ⟨.str i, ⟨t, rfl⟩, fun _ _ => .str _⟩
  | succ n ih =>
    intro v d h
    cases v <;> cases d <;> first | (exfalso; simp [kvB] at h; done) | skip
    · exact ⟨.non, rfl, fun _ _ => .non⟩
    · rename_i b c
      have e : (b == c) = true := by simpa [kvB] using h
      have := eq_of_beq e
      subst this
      exact ⟨.bl b, rfl, fun _ _ => .bl _⟩
    · rename_i i t j
      have e : i = j := by simpa [kvB] using h
      subst e
      exact ⟨.int i, ⟨t, rfl⟩, fun _ _ => .int _⟩
    · rename_i i t j
      have e : i = j := by simpa [kvB] using h
      subst e
      exact ⟨.str i, ⟨t, rfl⟩, fun _ _ => .str _⟩
    · rename_i a ds
      unfold kvB at h
      cases q : K.lookup a with
      | none => rw [q] at h; cases h
      | some o =>
        rw [q] at h
        simp only at h
        cases q2 : o.data with
        | seq its m =>
          rw [q2] at h
          simp only [Bool.and_eq_true] at h
          obtain ⟨xs, r, p⟩ := kvs_ok (fun v d => ih) h.2.2
          exact ⟨.ref a, rfl, fun cl G => .tup (.inr ⟨o, its, m, q, of_decide_eq_true h.1, q2, of_decide_eq_true h.2.1, r⟩) (p cl G)⟩
        | _ => rw [q2] at h; cases h
section
variable {c : Cf} {X : Cx} {x : Str} {p : Pos} {d : D}
end
/-! ### a dict of the module whose values are such constants -/
def tabD : List (Str × D) → Str → Option D
  | [], _ => none
  | q :: r, z => if q.1 = z then some q.2 else tabD r z
structure KTabD (K : PySem.W.Frag) (w : World) (a : Addr) (kvs : List (Str × D)) : Prop where
  kd : ∃ es n, KDict K w a es n
  get : ∀ z, ∃ r, PySem.W.nsIn K a z = some r ∧ (match tabD kvs z with | some d => ∃ u, r = some u ∧ KV1 K u d | none => r = none)
def entsB (K : PySem.W.Frag) : List DictEntry → List (Str × D) → Bool
  | [], [] => true
  | e :: es, q :: qs => (match e.key with | .str x _ => decide (x = q.1) | _ => false) && (kvB K 12 e.val q.2 && entsB K es qs)
  | _, _ => false
def ktdB (K : PySem.W.Frag) (a : Addr) (kvs : List (Str × D)) : Bool := match K.lookup a with
  | some ⟨_, _, .dict es _, _⟩ => entsB K es.toList kvs
  | _ => false
theorem ents_get {K : PySem.W.Frag} (z : Str) : ∀ {es : List DictEntry} {kvs : List (Str × D)}, entsB K es kvs = true → es.any (·.refKey) = false ∧ (match tabD kvs z with | some d => ∃ e, es.find? (·.key.isStr z) = some e ∧ KV1 K e.val d | none => es.find? (·.key.isStr z) = none)
  | [], [], _ => ⟨rfl, rfl⟩
  | [], _ :: _, h => by cases h
  | _ :: _, [], h => by cases h
  | e :: es, q :: qs, h => by
    have h : ((match e.key with | .str x _ => decide (x = q.1) | _ => false) && (kvB K 12 e.val q.2 && entsB K es qs)) = true := h
    rw [Bool.and_eq_true, Bool.and_eq_true] at h
    obtain ⟨h1, h2, h3⟩ := h
    obtain ⟨i1, i2⟩ := ents_get z h3
    cases k : e.key with
    | str x t =>
      rw [k] at h1
      have ex := of_decide_eq_true h1
      refine ⟨by rw [List.any_cons, i1]; simp [DictEntry.refKey, k], ?_⟩
      have hk : e.key.isStr z = decide (x = z) := by
        rw [PySem.W.isStr_of, k]
        show (x == z) = _
        rw [Bool.eq_iff_iff]; simp
      show (match (if q.1 = z then some q.2 else tabD qs z) with | some d => _ | none => _)
      by_cases hz : q.1 = z
      · rw [if_pos hz]
        exact ⟨e, by rw [List.find?_cons_of_pos (by rw [hk, ex, hz]; simp)], kv_ok h2⟩
      · rw [if_neg hz, List.find?_cons_of_neg (by rw [hk, ex]; simp [hz])]
        exact i2
    | _ => rw [k] at h1; cases h1
theorem ktd_of {K : PySem.W.Frag} {w : World} {a : Addr} {kvs : List (Str × D)} (h : ∃ es n, KDict K w a es n) (v : ktdB K a kvs = true) : KTabD K w a kvs := by
  refine ⟨h, fun z => ?_⟩
  obtain ⟨es, n, kd⟩ := h
  have v : entsB K es.toList kvs = true := by
    unfold ktdB at v
    rw [kd.at_] at v
    exact v
  obtain ⟨i1, i2⟩ := ents_get z v
  unfold PySem.W.nsIn
  rw [kd.at_]
  cases q : tabD kvs z with
  | none =>
    rw [q] at i2
    refine ⟨none, ?_, rfl⟩
    simp only [i2, i1]
    rfl
  | some d =>
    rw [q] at i2
    obtain ⟨e, e1, e2⟩ := i2
    refine ⟨some e.val, ?_, e.val, rfl, e2⟩
    simp only [e1]
def inM (neg : Bool) (kvs : List (Str × D)) : D → Option D
  | .str z => some (.bl (if neg then !(tabD kvs z).isSome else (tabD kvs z).isSome))
  | _ => none
def ixM (kvs : List (Str × D)) : D → Option D
  | .str z => tabD kvs z
  | _ => none
section
variable {c : Cf} {X : Cx} {x : Str} {e : Expr} {fe : DE} {p pos : Pos} {kvs : List (Str × D)}
theorem KTabD.some_of {K : PySem.W.Frag} {w : World} {a : Addr} {z : Str} (T : KTabD K w a kvs) : ∃ r, PySem.W.nsIn K a z = some r ∧ r.isSome = (tabD kvs z).isSome := by
  obtain ⟨r, h1, h2⟩ := T.get z
  refine ⟨r, h1, ?_⟩
  cases q : tabD kvs z with
  | none => rw [q] at h2; rw [h2]; rfl
  | some d => rw [q] at h2; obtain ⟨u, rfl, _⟩ := h2; rfl
theorem je_inM (T : ∃ a, X.mg x = some (.ref a) ∧ KTabD X.K X.w a kvs) (he : JE c X e fe) (hg : Gl X x := by rfl) (hd : (x == ("__debug__" : Str)) = false := by decide) (hm : behindInMarks .In (.Name x p) = false := by first | exact nomark _ | with_unfolding_all rfl) : JE c X (.Compare e [.In] [.Name x p] pos) (dUn (inM false kvs) fe) := by
  obtain ⟨a, ha, T⟩ := T
  obtain ⟨es, n, kd⟩ := T.kd
  refine je_of (pe_cmpR (op_in_kd kd) (peS X e) (pe_glob (v := .ref a) hg ha rfl hd) hm) fun R H0 G0 H G σ δ Q k h => ?_
  refine he R H0 G0 H G σ δ _ k (EPost.imp (EPost.bind h) fun y H1 ⟨G1, d, δ1, s1, k1, r1, h1⟩ => ?_)
  cases r1 with
  | str z =>
    obtain ⟨r, e1, e2⟩ := T.some_of (z := z)
    exact ⟨z, r, rfl, rfl, e1, h1 _ H1 G1 (.refl G1) k1 (by rw [e2]; exact .bl _)⟩
  | _ => exact h1.elim
theorem je_ixM (T : ∃ a, X.mg x = some (.ref a) ∧ KTabD X.K X.w a kvs) (he : JE c X e fe) (hg : Gl X x := by rfl) (hd : (x == ("__debug__" : Str)) = false := by decide) (hs : PlainIx e := by exact fun _ _ => rfl) : JE c X (.Subscript (.Name x p) e pos) (dUn (ixM kvs) fe) := by
  obtain ⟨a, ha, T⟩ := T
  obtain ⟨es, n, kd⟩ := T.kd
  refine je_of (pe_ix ix_kdict (pe_glob (v := .ref a) hg ha rfl hd) (peS X e) hs) fun R H0 G0 H G σ δ Q k h => ?_
  refine he R H0 G0 H G σ δ _ k (EPost.imp (EPost.bind h) fun y H1 ⟨G1, d, δ1, s1, k1, r1, h1⟩ => ?_)
  cases r1 with
  | str z =>
    obtain ⟨r, e1, e2⟩ := T.get z
    cases q : tabD kvs z with
    | none => simp only [ixM, q] at h1; exact h1.elim
    | some d =>
      rw [q] at e2
      simp only [ixM, q] at h1
      obtain ⟨u, rfl, v, rv, rd⟩ := e2
      exact ⟨a, z, v, rfl, rfl, ⟨es, n, u, kd.at_, kd.lit, e1, rv⟩, h1 v H1 G1 (.refl G1) k1 (rd _ _)⟩
  | _ => exact h1.elim
end
/-! ### tuple(d) of such a dict -/
theorem ents_pairs {K : PySem.W.Frag} {P : Program} {w : World} : ∀ {es : List DictEntry} {kvs : List (Str × D)}, entsB K es kvs = true → ∃ vs : List (Str × Value), Pairs (PySem.strKind P w) es vs ∧ vs.map (·.1) = kvs.map (·.1)
  | [], [], _ => ⟨[], .nil, rfl⟩
  | [], _ :: _, h => by cases h
  | _ :: _, [], h => by cases h
  | e :: es, q :: qs, h => by
    have h : ((match e.key with | .str x _ => decide (x = q.1) | _ => false) && (kvB K 12 e.val q.2 && entsB K es qs)) = true := h
    rw [Bool.and_eq_true, Bool.and_eq_true] at h
    obtain ⟨h1, h2, h3⟩ := h
    obtain ⟨vs, p1, p2⟩ := ents_pairs (P := P) (w := w) h3
    cases k : e.key with
    | str x t =>
      rw [k] at h1
      have ex := of_decide_eq_true h1
      exact ⟨(x, e.val) :: vs, .cons (by rw [k]; exact PySem.strKind_is P w x t) rfl p1, by rw [List.map_cons, List.map_cons, p2, ex]⟩
    | _ => rw [k] at h1; cases h1
def tupM (kvs : List (Str × D)) : D := .tpn (kvs.map fun q => .str q.1)
theorem rep_keysT {K : PySem.W.Frag} {cl : Cw} {G : Hp} : ∀ kvs : List (Str × D), RepL K cl G (kvs.map fun q => V.str q.1) (kvs.map fun q => D.str q.1)
  | [] => .nil
  | q :: r => .cons (.str _) (rep_keysT r)
theorem vals_at : ∀ {xs : List V} {us : List Value}, xs.length = us.length → (∀ (j : Nat) (x : V) (u : Value), xs[j]? = some x → us[j]? = some u → RelV x u) → Vals xs us
  | [], [], _, _ => .nil
  | [], _ :: _, h, _ => by cases h
  | _ :: _, [], h, _ => by cases h
  | x :: xs, u :: us, h, f => .cons (f 0 x u rfl rfl) (vals_at (by simpa using h) fun j y w e1 e2 => f (j + 1) y w (by simpa using e1) (by simpa using e2))
theorem call_tuple_kd {X : Cx} (hc : X.calm = true) {a : Addr} {kvs : List (Str × D)} (hk : ∃ es n, KDict X.K X.w a es n) (hv : ktdB X.K a kvs = true) (nd : (kvs.map (·.1)).Nodup) (hl : kvs.length ≤ sizeLine) :
    CallR X (.type "tuple") (fun xs H Q => xs = [V.ref a] ∧ ∀ p ob, ob.dict = none → ob.cls = .type "tuple" → H p = none → Q (.ref p) (upd H p (.frz ob (.tup (kvs.map fun q => V.str q.1))))) := by
  rintro pins s σ H xs us Q I r ⟨rfl, q⟩
  obtain ⟨u, rfl, rx⟩ := vals1 r
  cases rx
  obtain ⟨es, n, kd⟩ := hk
  have v : entsB X.K es.toList kvs = true := by
    unfold ktdB at hv
    rw [kd.at_] at hv
    exact hv
  obtain ⟨vs, p1, p2⟩ := ents_pairs (P := X.prog) (w := X.w) v
  have hat : s.heap.DictAt (PySem.strKind X.prog X.w) a vs n := by
    refine ⟨_, es, I.kIn _ _ kd.at_, ⟨rfl, rfl, rfl⟩, rfl, fun e he => ?_, p1, by rw [p2]; exact nd⟩
    obtain ⟨x, t, e1, e2⟩ := kd.lit.all e (Array.mem_toList_iff.mpr he)
    exact ⟨x, by rw [e1]; exact PySem.strKind_is _ _ x t, e2⟩
  have len : vs.length = kvs.length := by
    have := congrArg List.length p2
    rwa [List.length_map, List.length_map] at this
  refine call_tuple_src (PySem.W.kdl_dict kd.low) (I.ok.hd hc) hat (by rw [len]; exact hl) fun h' tk acc hk' sz0 it => ?_
  have hvv : Vals (kvs.map fun q => V.str q.1) acc.toList := by
    have e0 : (kvs.map fun q => V.str q.1) = vs.map (fun q => V.str q.1) := by
      have := congrArg (List.map V.str) p2
      rw [List.map_map, List.map_map] at this
      exact this.symm
    rw [e0]
    refine vals_at ((List.length_map _).trans (it.1.symm.trans Array.length_toList.symm)) fun j v u e1 e2 => ?_
    rw [Array.getElem?_toList] at e2
    obtain ⟨k, x, e3, e4⟩ := it.2 j u e2
    rw [List.getElem?_map, e3] at e1
    cases e1
    obtain ⟨t, rfl⟩ := Value.isStrOf_shape (show Value.isStrOf k u = true from e4)
    exact ⟨t, rfl⟩
  have at_ : (h'.push { cls := Value.type "tuple", data := Data.seq acc }).get? h'.objs.size = some { cls := Value.type "tuple", data := Data.seq acc } := Heap.get?_push_size _ rfl
  have ok : ObjOk X.prog X.w (upd H h'.objs.size (.frz { cls := Value.type "tuple", data := Data.seq acc } (.tup (kvs.map fun q => V.str q.1)))) (h'.push { cls := Value.type "tuple", data := Data.seq acc }) h'.objs.size (.frz { cls := Value.type "tuple", data := Data.seq acc } (.tup (kvs.map fun q => V.str q.1))) := by
    refine ⟨at_, by rw [List.length_map]; exact hl, acc.toList, hvv, ?_⟩
    rw [Array.toArray_toList]
    exact ⟨_, at_, rfl, _, rfl⟩
  exact ⟨.ref h'.objs.size, upd H h'.objs.size (.frz { cls := Value.type "tuple", data := Data.seq acc } (.tup (kvs.map fun q => V.str q.1))), I.laid (fun b o e => Heap.get?_push_of_some _ (hk' b o e)) (Nat.le_of_lt sz0) ok, rfl, q _ _ rfl rfl (I.hok.fresh (Nat.le_of_lt sz0))⟩
section
variable {c : Cf} {X : Cx} {x : Str} {p p2 pos : Pos} {kvs : List (Str × D)}
def GTab (K : PySem.W.Frag) (w : World) (mg : Str → Option Value) (x : Str) (kvs : List (Str × D)) : Prop := ∃ a, mg x = some (.ref a) ∧ (∃ es n, KDict K w a es n) ∧ ktdB K a kvs = true
theorem GTab.tab {K : PySem.W.Frag} {w : World} {mg : Str → Option Value} {x : Str} {kvs : List (Str × D)} (T : GTab K w mg x kvs) : ∃ a, mg x = some (.ref a) ∧ KTabD K w a kvs := by
  obtain ⟨a, h1, h2, h3⟩ := T
  exact ⟨a, h1, ktd_of h2 h3⟩
theorem je_tupM (hc : X.calm = true) (T : GTab X.K X.w X.mg x kvs) (nd : (kvs.map (·.1)).Nodup) (hl : kvs.length ≤ sizeLine) (hg : Gl X "tuple") (hm : X.mg "tuple" = none) (hg2 : Gl X x := by rfl) (hd : (x == ("__debug__" : Str)) = false := by decide)
    (he : starEach [.Name x p2] X.env = (false, eval (.Name x p2) X.env) :: starEach [] X.env := by rfl) (hpl : (backTo pos (starEach [] X.env)).any (·.1) = false := by rfl) :
    JE c X (.Call (.Name "tuple" p) [.Name x p2] [] pos) (dC (tupM kvs)) := by
  obtain ⟨a, h1, h2, h3⟩ := T
  refine je_of (pe_callTy (call_tuple_kd hc h2 h3 nd hl) hg hm (by decide +kernel) (pa_cons (pe_glob (v := .ref a) hg2 h1 rfl hd) pa_nil he) (by decide) (by decide) he hpl) fun R H0 G0 H G σ δ Q k h => ?_
  refine ⟨rfl, fun l ob hd' hc' nl => ?_⟩
  have gr := Grow.froze k.sub nl (.frz ob (.tup (kvs.map fun q => V.str q.1)))
  exact h _ _ _ gr.gk (k.grow gr) (.tpn upd_same hd' hc' (rep_keysT kvs))
end
end DL

set_option maxRecDepth 100000
set_option maxHeartbeats 4000000
namespace DL
open PySem PySem.Spec PyProof.Rows L2
/-! ### dict(zip(t, x)) of a tuple and a list or tuple that is no longer -/
def SqIt (k : Bool) (h : Heap) (i l : Addr) (n : Nat) : Prop := match k with
  | true => h.IsTupleIter i l n
  | false => h.IsListIter i l n
def SqHp (k : Bool) (h : Heap) (l : Addr) (ys : Array Value) : Prop := match k with
  | true => h.IsTuple l ys
  | false => h.IsList l ys
theorem SqIt.at {k : Bool} {h h' : Heap} {i l : Addr} {n : Nat} (x : SqIt k h i l n) (e : ∀ o, h.get? i = some o → h'.get? i = some o) : SqIt k h' i l n := by
  cases k
  · exact Heap.IsListIter.at x e
  · exact Heap.IsTupleIter.at x e
theorem SqHp.at {k : Bool} {h h' : Heap} {l : Addr} {ys : Array Value} (x : SqHp k h l ys) (e : ∀ o, h.get? l = some o → h'.get? l = some o) : SqHp k h' l ys := by
  cases k
  · exact Heap.IsList.at x e
  · exact Heap.IsTuple.at x e
theorem SqIt.ex {k : Bool} {h : Heap} {i l : Addr} {n : Nat} (x : SqIt k h i l n) : ∃ o, h.get? i = some o := by
  cases k
  · obtain ⟨o, h1, _⟩ := id x; exact ⟨o, h1⟩
  · obtain ⟨o, h1, _⟩ := id x; exact ⟨o, h1⟩
theorem SqHp.ex {k : Bool} {h : Heap} {l : Addr} {ys : Array Value} (x : SqHp k h l ys) : ∃ o, h.get? l = some o := by
  cases k
  · obtain ⟨o, h1, _⟩ := id x; exact ⟨o, h1⟩
  · obtain ⟨o, h1, _⟩ := id x; exact ⟨o, h1⟩
theorem sq_draws {prog : Program} {w : World} {A : Around} (k : Bool) (hh : A.handled = none) (it l : Addr) (hne : l ≠ it) (ys : Array Value) : Draws prog w A it [it, l] ys.size (fun i v => ys[i]? = some v) (fun i h => SqIt k h it l i ∧ SqHp k h l ys) := by
  cases k
  · exact Draws.list hh it l hne ys
  · exact Draws.tuple hh it l hne ys
section
variable {prog : Program} {w : World}
def ZOkB (k : Bool) (z TI TO i1 i2 l1 l2 : Addr) (xs ys : Array Value) (h : Heap) : Prop := IsZip h z TI TO .none ∧ IsTupOf2 h TI (.ref i1) (.ref i2) ∧ (∃ a b, IsTupOf2 h TO a b) ∧ (h.IsTupleIter i1 l1 0 ∧ h.IsTuple l1 xs) ∧ SqIt k h i2 l2 0 ∧ SqHp k h l2 ys
theorem pa_zipB (k : Bool) (z TI TO i1 i2 l1 l2 : Addr) (S : ZipSep2 z TI TO i1 i2 [i1, l1] [i2, l2]) (q1 : l1 ≠ i1) (q2 : l2 ≠ i2) (xs ys : Array Value) :
    PairArg prog w "zip" z [z, TI, TO, i1, i2, l1, l2] [z, TO, i1, i2] (min xs.size ys.size) (fun i k v => xs[i]? = some k ∧ ys[i]? = some v) (ZOkB k z TI TO i1 i2 l1 l2 xs ys) where
  type := fun s ok => ⟨_, ok.1, rfl⟩
  notDict := by decide
  keep := fun h h' ok hk => by
    obtain ⟨hz, hTI, ⟨a, b, hTO⟩, ⟨h1, g1⟩, h2, g2⟩ := ok
    exact ⟨hk _ _ hz, hk _ _ hTI, ⟨a, b, hk _ _ hTO⟩, ⟨h1.at fun o e => hk _ o e, g1.at fun o e => hk _ o e⟩, h2.at fun o e => hk _ o e, g2.at fun o e => hk _ o e⟩
  there := fun h ok b hb => by
    obtain ⟨hz, hTI, ⟨a, c, hTO⟩, ⟨⟨o1, h1, _⟩, o3, g1, _⟩, hi2, hl2⟩ := ok
    obtain ⟨o2, h2⟩ := hi2.ex
    obtain ⟨o4, g2⟩ := hl2.ex
    simp only [List.mem_cons, List.not_mem_nil, or_false] at hb
    rcases hb with rfl | rfl | rfl | rfl | rfl | rfl | rfl
    · exact ⟨_, hz⟩
    · exact ⟨_, hTI⟩
    · exact ⟨_, hTO⟩
    · exact ⟨_, h1⟩
    · exact ⟨_, h2⟩
    · exact ⟨_, g1⟩
    · exact ⟨_, g2⟩
  sub := fun b hb => by simp at hb ⊢; rcases hb with rfl | rfl | rfl | rfl <;> simp
  noKeys := fun A s Q E hA ok h => getAttrOr_miss_zip ok.1 rfl rfl rfl zip_no_keys (by decide +kernel) hA h
  iter := fun A s d Q E hA ok hd hdf h => by
    obtain ⟨hz, hTI, ⟨a, b, hTO⟩, st1, st2⟩ := ok
    simp only [List.mem_cons, List.not_mem_nil, or_false, not_or] at hdf
    obtain ⟨dz, dTI, dTO, di1, di2, dl1, dl2⟩ := hdf
    have D1 : Draws prog w A.in1 i1 [i1, l1] xs.size (fun i v => xs[i]? = some v) (fun i h => h.IsTupleIter i1 l1 i ∧ h.IsTuple l1 xs) := Draws.tuple (A := A.in1) (show A.in1.handled = none from hA) i1 l1 q1 xs
    have D2 : Draws prog w A.in1 i2 [i2, l2] ys.size (fun i v => ys[i]? = some v) (fun i h => SqIt k h i2 l2 i ∧ SqHp k h l2 ys) := sq_draws (A := A.in1) k (show A.in1.handled = none from hA) i2 l2 q2 ys
    refine wpAny_pyIter_zip hz (h z [z, TO, i1, i2] (fun i h => IsTupOf2 h TI (.ref i1) (.ref i2) ∧ (h.IsTupleIter i1 l1 i ∧ h.IsTuple l1 xs) ∧ (SqIt k h i2 l2 i ∧ SqHp k h l2 ys) ∧
      ((IsZip h z TI TO .none ∧ ∃ a b, IsTupOf2 h TO a b) ∨ ∃ T f oT, IsZipHeld h z TI TO T f ∧ h.get? T = some oT ∧ T ≠ z ∧ T ≠ i1 ∧ T ≠ i2 ∧ T ≠ d)) s.heap s.toks ?_
      ⟨hTI, st1, st2, .inl ⟨hz, a, b, hTO⟩⟩ (fun _ _ e => e) fun b hb => .inl hb)
    exact {
      off := fun hm => by
        simp only [List.mem_cons, List.not_mem_nil, or_false] at hm
        rcases hm with e | e | e | e
        · exact dz e
        · exact dTO e
        · exact di1 e
        · exact di2 e
      frame := fun i h1 h2 st hk => by
        obtain ⟨hTI, ⟨a1, a2⟩, ⟨b1, b2⟩, hz⟩ := st
        refine ⟨hk _ _ (Ne.symm dTI) hTI, ⟨a1.at fun o e => hk _ o (Ne.symm di1) e, a2.at fun o e => hk _ o (Ne.symm dl1) e⟩, ⟨b1.at fun o e => hk _ o (Ne.symm di2) e, b2.at fun o e => hk _ o (Ne.symm dl2) e⟩, ?_⟩
        rcases hz with ⟨hz, a, b, hTO⟩ | ⟨T, f, oT, hz, hT, r1, r2, r3, r4⟩
        · exact .inl ⟨hk _ _ (Ne.symm dz) hz, a, b, hk _ _ (Ne.symm dTO) hTO⟩
        · exact .inr ⟨T, f, oT, hk _ _ (Ne.symm dz) hz, hk _ _ r4 hT, r1, r2, r3, r4⟩
      item := fun i s1 Q1 E1 hi st hds hQ => by
        obtain ⟨hTI, st1, st2, hz⟩ := st
        have hix : i < xs.size := Nat.lt_of_lt_of_le hi (Nat.min_le_left ..)
        have hiy : i < ys.size := Nat.lt_of_lt_of_le hi (Nat.min_le_right ..)
        have lt : ∀ {c o}, s1.heap.get? c = some o → s1.heap.objs.size ≠ c := fun e => Nat.ne_of_gt (Heap.lt_size e)
        have m1 : s1.heap.objs.size ≠ i1 := by obtain ⟨_, e⟩ := D1.live _ _ st1; exact lt e
        have m2 : s1.heap.objs.size ≠ i2 := by obtain ⟨_, e⟩ := D2.live _ _ st2; exact lt e
        rcases hz with ⟨hz, a, b, hTO⟩ | ⟨T, f, oT, hz, hT, r1, r2, r3, r4⟩
        · refine wpAny_pyNext_zipD2_item S D1 D2 hz hTI hTO st1 st2 hix hiy fun x1 x2 h' tk y1 y2 b1 b2 d1 d2 b5 b6 hk => ?_
          exact hQ s1.heap.objs.size x1 x2 h' tk ⟨y1, y2⟩ (.inl ⟨_, b5, rfl, _, rfl⟩)
            ⟨hk _ _ S.TIz S.TITO S.TIi1 S.TIi2 hTI, d1, d2, .inr ⟨s1.heap.objs.size, false, _, b1, b5, lt hz, m1, m2, Nat.ne_of_gt hds⟩⟩
            fun c o hc e => hk c o (fun x => hc (by simp [x])) (fun x => hc (by simp [x])) (fun x => hc (by simp [x])) (fun x => hc (by simp [x])) e
        · refine nx_zh_item S D1 D2 hz hT hTI st1 st2 hix hiy fun x1 x2 h' tk y1 y2 b1 d1 d2 b5 hk => ?_
          exact hQ s1.heap.objs.size x1 x2 h' tk ⟨y1, y2⟩ (.inl ⟨_, b5, rfl, _, rfl⟩)
            ⟨hk _ _ S.TIz S.TIi1 S.TIi2 hTI, d1, d2, .inr ⟨T, true, oT, b1, hk _ _ r1 r2 r3 hT, r1, r2, r3, r4⟩⟩
            fun c o hc e => hk c o (fun x => hc (by simp [x])) (fun x => hc (by simp [x])) (fun x => hc (by simp [x])) e
      done := fun s1 Q1 E1 st hQ => by
        obtain ⟨hTI, st1, st2, hz⟩ := st
        have hend : min xs.size ys.size = xs.size ∨ min xs.size ys.size = ys.size := by omega
        rcases hz with ⟨hz, a, b, hTO⟩ | ⟨T, f, oT, hz, hT, r1, r2, r3, r4⟩
        · exact wpAny_pyNext_zipD2_end S D1 D2 hz hTI hTO st1 st2 (by omega) (by omega) hend fun h' tk hk => hQ h' tk fun c o hc e => hk c o (fun x => hc (by simp [x])) (fun x => hc (by simp [x])) (fun x => hc (by simp [x])) (fun x => hc (by simp [x])) e
        · exact nx_zh_end S D1 D2 hz hT hTI st1 st2 (by omega) hend fun h' tk hk => hQ h' tk fun c o hc e => hk c o (fun x => hc (by simp [x])) (fun x => hc (by simp [x])) (fun x => hc (by simp [x])) e }
end
theorem kvs_ofB {P : Program} {w : World} : ∀ {ks : List Key} {ys : List V} {us ws : List Value}, Vals (ks.map kV) us → Vals ys ws → ys.length ≤ ks.length → ∃ prs : List (Key × Value), KV (ks.zip ys) prs ∧ prs.length = ys.length ∧ ∀ (j : Nat) (k v : Value), us[j]? = some k → ws[j]? = some v → ∃ q, prs[j]? = some (q, v) ∧ (mixKind P w).is q k = true
  | ks, [], _, _, _, .nil, _ => ⟨[], by cases ks <;> exact .nil, rfl, fun j k v _ h => by simp at h⟩
  | [], _ :: _, _, _, _, _, h => by simp at h
  | q :: ks, y :: ys, _, _, .cons r t, .cons r2 t2, h => by
    obtain ⟨prs, e1, e2, e3⟩ := kvs_ofB (P := P) (w := w) t t2 (by simpa using h)
    refine ⟨(q, _) :: prs, .cons ⟨rfl, r2⟩ e1, by rw [List.length_cons, List.length_cons, e2], fun j k v hk hv => ?_⟩
    cases j with
    | zero =>
      have := Option.some.inj hk
      have := Option.some.inj hv
      subst_vars
      exact ⟨q, rfl, kV_is r⟩
    | succ j => exact e3 j k v (by simpa using hk) (by simpa using hv)
def SqKT (k : Bool) (K : PySem.W.Frag) (H : Hp) (b : Addr) (ys : List V) : Prop := match k with
  | true => SqT K H b ys
  | false => SqL K H b ys
def tDictZipB (K : PySem.W.Frag) (t : TA) : TE := fun σ H Q => t σ H fun vs H1 => ∃ (k : Bool) (a b : Addr) (ks : List Key) (ys : List V), vs = [.ref a, .ref b] ∧ SqT K H1 a (ks.map kV) ∧ SqKT k K H1 b ys ∧ ys.length ≤ ks.length ∧ ks.length ≤ 4096 ∧ ∀ p, H1 p = none → Q (.ref p) (upd H1 p (.dK (mergeK [] (ks.zip ys))))
section
variable {X : Cx} {e e2 : Expr} {t : TA} {p p2 q pos : Pos}
theorem pe_dictZipB (hg : Gl X "dict") (hm : X.mg "dict" = none) (hg2 : Gl X "zip") (hm2 : X.mg "zip" = none) (ha : PA X [e, e2] t) (hc : X.calm = true := by rfl)
    (he : starEach [e, e2] X.env = (false, eval e X.env) :: starEach [e2] X.env := by rfl) (hpl : (backTo q (starEach [e2] X.env)).any (·.1) = false := by rfl)
    (na : starEach [.Call (.Name "zip" p2) [e, e2] [] q] X.env = (false, eval (.Call (.Name "zip" p2) [e, e2] [] q) X.env) :: starEach [] X.env := by rfl) : PE X (.Call (.Name "dict" p) [.Call (.Name "zip" p2) [e, e2] [] q] [] pos) (tDictZipB X.K t) := by
  refine ⟨fun pins s σ H Q I h => ?_⟩
  refine Call_ (ld_blt I hg hm boot_dict ?_)
  refine PyProof.Rows.callWith_type1 (PyProof.Rows.args_cons ?_ na) na rfl
  refine Call_ (ld_blt I hg2 hm2 boot_zip ?_)
  refine PyProof.Rows.callWith_type1 (thn (ha.run q pins s σ H _ I h) fun us s1 ⟨vs, H1, I1, r1, q1⟩ => ?_) he hpl
  obtain ⟨k, a, b, ks, ys, ev, ha1, hb1, hl, hl2, q1⟩ := q1
  subst ev
  obtain ⟨u1, u2, eu, ru1, ru2⟩ := vals2 r1
  subst eu
  cases ru1
  cases ru2
  obtain ⟨its, rv, pl, hz⟩ := I1.tuple ha1
  have t1 : s1.heap.IsTuple a its.toArray := pl
  have e2 : ∃ its2, Vals ys its2 ∧ SqHp k s1.heap b its2.toArray := by
    cases k
    · obtain ⟨its2, rv2, pl2, hz2⟩ := I1.list hb1
      exact ⟨its2, rv2, pl2.isList⟩
    · obtain ⟨its2, rv2, pl2, hz2⟩ := I1.tuple hb1
      exact ⟨its2, rv2, pl2⟩
  obtain ⟨its2, rv2, t2⟩ := e2
  obtain ⟨o1, ho1, _⟩ := id pl
  obtain ⟨o2, ho2⟩ := t2.ex
  have la := Heap.lt_size ho1
  have lb := Heap.lt_size ho2
  have key : ∀ h', IsZip h' (s1.heap.objs.size + 4) (s1.heap.objs.size + 2) (s1.heap.objs.size + 3) .none → IsTupOf2 h' (s1.heap.objs.size + 2) (.ref s1.heap.objs.size) (.ref (s1.heap.objs.size + 1)) →
      IsTupOf2 h' (s1.heap.objs.size + 3) .none .none → h'.IsTupleIter s1.heap.objs.size a 0 → SqIt k h' (s1.heap.objs.size + 1) b 0 → h'.objs.size = s1.heap.objs.size + 5 →
      (∀ c o, s1.heap.get? c = some o → h'.get? c = some o) → wpAny (model X.prog X.w) X.A (call (.type "dict") [.ref (s1.heap.objs.size + 4)]) (EP X pins σ Q) X.xe { s1 with heap := h' } := fun h' hzz hTI hTO g1 g2 hsz hk => by
    obtain ⟨prs, kv, pl3, hp⟩ := kvs_ofB (P := X.prog) (w := X.w) rv rv2 hl
    have len1 := rv.length
    have len2 := rv2.length
    rw [List.length_map] at len1
    refine PySem.call_dict_pairs (s := { s1 with heap := h' }) (knd := mixKind X.prog X.w) (kvs := prs) (pa_zipB k (s1.heap.objs.size + 4) (s1.heap.objs.size + 2) (s1.heap.objs.size + 3) s1.heap.objs.size (s1.heap.objs.size + 1) a b (zsep la lb) (Nat.ne_of_lt la) (Nat.ne_of_lt (Nat.lt_succ_of_lt lb)) its.toArray its2.toArray) (I1.ok.hd hc)
      ⟨hzz, hTI, ⟨_, _, hTO⟩, ⟨g1, t1.at fun o e => hk _ o e⟩, g2, t2.at fun o e => hk _ o e⟩ ⟨by rw [pl3, List.size_toArray, List.size_toArray]; omega, fun i key v ⟨e1, e2⟩ => hp i key v (by simpa using e1) (by simpa using e2)⟩ (by rw [List.size_toArray, List.size_toArray, sizeLine_eq]; omega) fun h2 tk hd' k2 => ?_
    have hbig := I1.big
    have hm : (h'.objs.size == sysModules) = false := beq_eq_false_iff_ne.mpr (Nat.ne_of_gt (Nat.lt_of_lt_of_le hbig (by rw [hsz]; exact Nat.le_add_right _ _)))
    have hlen : (mergeK [] (ks.zip ys)).length ≤ sizeLine := by
      refine Nat.le_trans (length_mergeK (ks.zip ys) []) ?_
      rw [List.length_nil, Nat.zero_add, List.length_zip, sizeLine_eq]
      omega
    exact ⟨.ref h'.objs.size, upd H1 h'.objs.size (.dK (mergeK [] (ks.zip ys))), I1.laid (t' := tk) (fun b o e => k2 b o (fr_off (Heap.lt_size e)) (hk b o e)) (by rw [hsz]; exact Nat.le_add_right _ _) (show ObjOk X.prog X.w _ _ _ (.dK (mergeK [] (ks.zip ys))) from ⟨hlen, hm, merged [] prs, KV.merge kv .nil, hd'⟩), rfl, q1 _ (I1.hok.fresh (by rw [hsz]; exact Nat.le_add_right _ _))⟩
  cases k
  · exact zip_begins2 (begins_tuple a its.toArray) (begins_list b its2.toArray) t1 t2 fun h' hzz hTI hTO g1 g2 hsz hk => PyProof.Rows.args_nil (key h' hzz hTI hTO ⟨_, g1, rfl, rfl⟩ ⟨_, g2, rfl, rfl⟩ hsz hk)
  · exact zip_begins2 (begins_tuple a its.toArray) (begins_tuple b its2.toArray) t1 t2 fun h' hzz hTI hTO g1 g2 hsz hk => PyProof.Rows.args_nil (key h' hzz hTI hTO ⟨_, g1, rfl, rfl⟩ ⟨_, g2, rfl, rfl⟩ hsz hk)
end
def rDictZipB (K : PySem.W.Frag) : List V → Hp → VK → Prop := fun vs H1 Q => ∃ (k : Bool) (a b : Addr) (ks : List Key) (ys : List V), vs = [.ref a, .ref b] ∧ SqT K H1 a (ks.map kV) ∧ SqKT k K H1 b ys ∧ ys.length ≤ ks.length ∧ ks.length ≤ 4096 ∧ ∀ p, H1 p = none → Q (.ref p) (upd H1 p (.dK (mergeK [] (ks.zip ys))))
def gDictZipB : List D → Option D
  | [x, y] => (seqT x).bind fun ks => (itsD0 y).bind fun ds => (keysOfD ks).bind fun kk => if ds.length ≤ kk.length ∧ kk.length ≤ 4096 ∧ kk.Nodup then some (.dct (kk.take ds.length) ds) else none
  | _ => none
theorem zip_take {α β : Type} : ∀ (ks : List α) (ys : List β), ks.zip ys = (ks.take ys.length).zip ys
  | [], ys => by simp
  | k :: ks, [] => by simp
  | k :: ks, y :: ys => by
    show (k, y) :: ks.zip ys = (k, y) :: (ks.take ys.length).zip ys
    rw [← zip_take ks ys]
theorem cn_dictZipB {K : PySem.W.Frag} {cl : Cw} : CallNew K cl (rDictZipB K) gDictZipB := fun H G xs ds z Q s r e q => by
  match ds, r, e with
  | [x, y], r, e =>
    obtain ⟨v, u, rfl, rv, ru⟩ := r.two'
    simp only [gDictZipB, Option.bind_eq_some_iff] at e
    obtain ⟨kd, e1, ds, e2, kk, e3, e4⟩ := e
    by_cases c : ds.length ≤ kk.length ∧ kk.length ≤ 4096 ∧ kk.Nodup
    · rw [if_pos c] at e4
      cases e4
      obtain ⟨a, xs, rfl, sa, ra⟩ := seqT_rep s rv e1
      obtain ⟨b, ys, rfl, sb, rb⟩ := seq_of ru e2
      have ek := keysOf_rep ra e3
      subst ek
      have lb := rb.length
      have hz : kk.zip ys = (kk.take ds.length).zip ys := by rw [← lb]; exact zip_take kk ys
      have lt : (kk.take ds.length).length = ys.length := by rw [List.length_take, lb]; exact Nat.min_eq_left c.1
      have m : mergeK [] (kk.zip ys) = (kk.take ds.length).zip ys := by
        rw [hz]
        exact merge_new _ [] (by rw [List.nil_append, zip_keys lt]; exact (List.take_sublist _ _).nodup c.2.2)
      have fin : ∀ k, SqKT k K H b ys → ∀ Q' : VK, (∀ p, H p = none → Q' (.ref p) (upd H p (.dK (mergeK [] (kk.zip ys))))) → rDictZipB K [.ref a, .ref b] H Q' := fun k sk Q' hq => ⟨k, a, b, kk, ys, rfl, sa, sk, by omega, c.2.1, hq⟩
      have q' : ∀ p, H p = none → Q (.ref p) (upd H p (.dK (mergeK [] (kk.zip ys)))) := fun p np => by
        rw [m]
        exact q p _ np ⟨ys, upd_same, lt, rb⟩
      rcases sb with sb | sb
      · exact fin true (s.sqT sb) Q q'
      · exact fin false (s.sqL sb) Q q'
    · rw [if_neg c] at e4; cases e4
  | [], r, e => cases e
  | [_], r, e => cases e
  | _ :: _ :: _ :: _, r, e => cases e
section
variable {c : Cf} {X : Cx} {e e2 : Expr} {fs : DA} {p p2 q pos : Pos}
theorem jf_dictZipB (hg : Gl X "dict") (hm : X.mg "dict" = none) (hg2 : Gl X "zip") (hm2 : X.mg "zip" = none) (ha : JA c X [e, e2] fs) (hc : X.calm = true := by rfl)
    (he : starEach [e, e2] X.env = (false, eval e X.env) :: starEach [e2] X.env := by rfl) (hpl : (backTo q (starEach [e2] X.env)).any (·.1) = false := by rfl)
    (na : starEach [.Call (.Name "zip" p2) [e, e2] [] q] X.env = (false, eval (.Call (.Name "zip" p2) [e, e2] [] q) X.env) :: starEach [] X.env := by rfl) : JF c X (.Call (.Name "dict" p) [.Call (.Name "zip" p2) [e, e2] [] q] [] pos) (dCallB gDictZipB fs) :=
  jf_cb (pe_dictZipB hg hm hg2 hm2 (paS X [e, e2]) hc he hpl na) cn_dictZipB ha
end
end DL

set_option maxRecDepth 100000
set_option maxHeartbeats 2000000
namespace LW
open PySem PySem.Spec PyProof.Rows L2 DL
theorem log_lt {i : Int} {k : Nat} (h : i.natAbs < 2 ^ k) (hk : 0 < k) : i.natAbs.log2 < k := by
  by_cases z : i.natAbs = 0
  · rw [z]; simpa using hk
  · exact (Nat.log2_lt z).mpr h
theorem mul_ok {i j : Int} (h1 : i.natAbs < 2 ^ 64) (h2 : j.natAbs < 2 ^ 64) : cMul i j = true := by
  have a := log_lt h1 (by decide)
  have b := log_lt h2 (by decide)
  exact decide_eq_true (by omega)
theorem pos_ok {i j : Int} (h : 0 < j) : cPos i j = true := decide_eq_true h
theorem div_ok {i j : Int} (h : 0 < j) (h2 : j.natAbs < 2 ^ 64) : cDiv i j = true := decide_eq_true ⟨h, by have := log_lt h2 (by decide); omega⟩
theorem int1 (i : Int) : gInt1 [.int i] = some (.int i) := rfl
theorem abs1 (i : Int) : gAbs [.int i] = some (.int (if i < 0 then -i else i)) := rfl
theorem app_lt {n : Nat} (h : n ≤ 63) : n < sizeLine := by rw [sizeLine_eq]; omega
theorem le_line {n : Nat} (h : n ≤ 4096) : n ≤ sizeLine := by rw [sizeLine_eq]; omega
theorem gLst4 (a b c d : D) : gLstD [a, b, c, d] = some (.lst [a, b, c, d]) := if_pos (le_line (by show 4 ≤ 4096; decide))
theorem gLst0 : gLstD [] = some (.lst []) := if_pos (Nat.zero_le _)
theorem ints_inj {k ns : List Int} (e : ns.map D.int = k.map D.int) : k = ns := by
  have := congrArg (List.map fun d : D => match d with | .int i => i | _ => 0) e
  simpa [List.map_map, Function.comp_def] using this.symm
theorem ix0 (a b c d : D) : idxD (.lst [a, b, c, d]) (.int 0) = some a := rfl
theorem ix1 (a b c d : D) : idxD (.lst [a, b, c, d]) (.int 1) = some b := rfl
theorem ix2 (a b c d : D) : idxD (.lst [a, b, c, d]) (.int 2) = some c := rfl
theorem ix3' (a b c d : D) : idxD (.lst [a, b, c, d]) (.int 3) = some d := rfl
theorem n4 (a b c d : D) : ([a, b, c, d] : List D).length = 4 := rfl
theorem x1 : ixN 4 1 = some 1 := rfl
theorem x2 : ixN 4 2 = some 2 := rfl
theorem x3 : ixN 4 3 = some 3 := rfl
theorem len_l (l : List D) : gLen [.lst l] = some (.int (l.length : Nat)) := rfl
theorem at_int (cs : List Int) (p : Int) (h0 : 0 ≤ p) (h1 : p < cs.length) : ∃ c, idxD (.lst (cs.map D.int)) (.int p) = some (.int c) ∧ c ∈ cs := by
  have hp : p.toNat < cs.length := by omega
  refine ⟨cs[p.toNat], ?_, List.getElem_mem hp⟩
  have e : ixN (cs.map D.int).length p = some p.toNat := by
    rw [List.length_map]
    unfold L2.ixN
    rw [if_pos h0, if_pos h1]
  show L2.atI (cs.map D.int) p = _
  unfold L2.atI
  rw [e]
  show (cs.map D.int)[p.toNat]? = _
  rw [List.getElem?_map, List.getElem?_eq_getElem hp]; rfl
theorem big : cPow 10 18 = true := rfl
theorem bigv : (10 : Int) ^ (18 : Int).toNat = 1000000000000000000 := rfl
theorem tb (l i : Nat) : (Builtin.bitAnd ((l : Int) / 2 ^ ((i : Nat) : Int).toNat) 1 != 0) = l.testBit i := by
  have e : ((l : Int) / 2 ^ ((i : Nat) : Int).toNat) = ((l / 2 ^ i : Nat) : Int) := by rw [Int.toNat_natCast]; simp
  rw [e, bitAnd_m1, Nat.testBit_eq_decide_div_mod_eq]
  generalize l / 2 ^ i = k
  by_cases h : k % 2 = 1
  · rw [decide_eq_true h]; simp; omega
  · rw [decide_eq_false h]; simp; omega
theorem rng0 (n : Nat) : rngD 0 ((n : Nat) : Int) = (List.range n).map fun i => D.int ((i : Nat) : Int) := by
  unfold rngD
  rw [Int.sub_zero, Int.toNat_natCast]
  exact List.map_congr_left fun i _ => by rw [Int.zero_add]
theorem itr (n : Nat) (h : n ≤ 4096) (δ : DEnv) : itK1 rg1 (.ok (.int ((n : Nat) : Int)) δ) = .ok ((List.range n).map fun i => D.int ((i : Nat) : Int)) δ := by
  rw [a_itR, rng0]
  exact ⟨by omega, by omega⟩
def Nr (s : Sl) : Prop := ∀ d, s ≠ .rf d
theorem set_nr {i : Nat} {d : D} {δ : DEnv} {s : Sl} (h : Nr s) : setVK i d δ (some s) = some (δ.set i (.val d)) := by
  cases s with
  | rf d => exact absurd rfl (h d)
  | _ => rfl
def sq : Bool → List D → D
  | true, ds => .tup ds
  | false, ds => .lst ds
theorem sq_len (q : Bool) (ds : List D) : lenD (sq q ds) = some ds.length := by cases q <;> rfl
theorem ix_any {ds : List D} {k : Nat} {d : D} (q : Bool) (h : ds[k]? = some d) : idxD (sq q ds) (.int ((k : Nat) : Int)) = some d := by cases q <;> exact atI_nat h
def rgF (i n : Nat) : List D := (List.range' i n).map fun j => D.int ((j : Nat) : Int)
theorem itF (n : Nat) (h : n ≤ 4096) (δ : DEnv) : itK1 rg1 (.ok (.int ((n : Nat) : Int)) δ) = .ok (rgF 0 n) δ := by
  rw [itr n h]; unfold rgF; rw [List.range_eq_range']
theorem p2 (i : Int) : cPos i 2 = true := rfl
theorem isi_int (Ts : List String) (i : Int) : Option.map (fun t => D.bl (Ts.any (subT t))) (tyD (.int i)) = some (.bl (Ts.any (subT "int"))) := rfl
theorem isi_tup (Ts : List String) (ds : List D) : Option.map (fun t => D.bl (Ts.any (subT t))) (tyD (.tup ds)) = some (.bl (Ts.any (subT "tuple"))) := rfl
theorem s1 : (["tuple"].any (subT "int")) = false := by decide
theorem s2 : (["tuple"].any (subT "tuple")) = true := by decide
theorem s3 : (["bool"].any (subT "int")) = false := by decide
theorem s4 : (["str"].any (subT "int")) = false := by decide
theorem s5 : (["int"].any (subT "int")) = true := by decide
theorem is_non (i : Int) : gIs false (.int i) .non = some (.bl false) ∧ gIs true (.int i) .non = some (.bl true) := ⟨rfl, rfl⟩
theorem mem_rgF {n : Nat} {d : D} (h : d ∈ rgF 0 n) : ∃ k, k < n ∧ d = .int ((k : Nat) : Int) := by
  unfold rgF at h
  obtain ⟨k, hk, rfl⟩ := List.mem_map.mp h
  have := List.mem_range'.mp hk
  obtain ⟨i, hi, rfl⟩ := this
  exact ⟨0 + 1 * i, by omega, rfl⟩
theorem rgF_len (i n : Nat) : (rgF i n).length = n := by unfold rgF; simp
theorem nz (t : Nat) (h : t ≠ 0) : ((t : Int) != 0) = true := by simp; omega
theorem nz0 : (((0 : Nat) : Int) != 0) = false := rfl
theorem isi_sq (q : Bool) (ds : List D) : Option.map (fun t => D.bl ((["list", "tuple"] : List String).any (subT t))) (tyD (sq q ds)) = some (.bl true) := by
  cases q
  · show some (D.bl ((["list", "tuple"] : List String).any (subT "list"))) = _
    rw [show ((["list", "tuple"] : List String).any (subT "list")) = true by decide]
  · show some (D.bl ((["list", "tuple"] : List String).any (subT "tuple"))) = _
    rw [show ((["list", "tuple"] : List String).any (subT "tuple")) = true by decide]
def Pv (s : Sl) : Prop := s = .un ∨ ∃ d, s = .val d
theorem pv_nr {s : Sl} (h : Pv s) : Nr s := by rcases h with rfl | ⟨d, rfl⟩ <;> exact fun _ z => by cases z
end LW

set_option maxRecDepth 100000
set_option maxHeartbeats 2000000
namespace LW
open PySem PySem.Spec PyProof.Rows L2 DL
/-! ### lots as numbers -/
def Wi (a b : Nat) : Prop := a &&& b = a
theorem wi_bit {a b : Nat} : Wi a b ↔ ∀ j, a.testBit j = true → b.testBit j = true := by
  constructor
  · intro h j hj
    have : (a &&& b).testBit j = true := by rw [h]; exact hj
    rw [Nat.testBit_and, Bool.and_eq_true] at this
    exact this.2
  · intro h
    refine Nat.eq_of_testBit_eq fun j => ?_
    rw [Nat.testBit_and]
    cases e : a.testBit j with
    | false => rfl
    | true => rw [h j e]; rfl
/-- the next lot: the rows' lots from place i on -/
def nx : List Nat → Nat → Nat → Nat → Nat
  | [], _, _, acc => acc
  | a :: r, l, i, acc => nx r l (i + 1) (if l.testBit i then acc ||| a else acc)
def bk : List Nat → Nat → Nat → Nat → Nat
  | [], _, _, acc => acc
  | a :: r, g, i, acc => bk r g (i + 1) (if a &&& g = a then acc ||| 2 ^ i else acc)
abbrev Bk (r : List Nat) (g : Nat) : Nat := bk r g 0 0
theorem ext_bit {a b : Nat} (h : ∀ j, a.testBit j = true ↔ b.testBit j = true) : a = b := Nat.eq_of_testBit_eq fun j => Bool.eq_iff_iff.mpr (h j)
/-- the row of a test -/
def tr (v k : Nat) : List Nat := (List.range v).map fun s => k &&& 2 ^ s
end LW

set_option maxRecDepth 100000
set_option maxHeartbeats 2000000
namespace LW
open PySem PySem.Spec PyProof.Rows L2 DL
/-! ### families of lots -/
theorem wi_refl (a : Nat) : Wi a a := wi_bit.mpr fun _ h => h
theorem wi_trans {a b c : Nat} (h1 : Wi a b) (h2 : Wi b c) : Wi a c := wi_bit.mpr fun j h => wi_bit.mp h2 j (wi_bit.mp h1 j h)
theorem top_lt (v : Nat) : 2 ^ v - 1 < 2 ^ v := Nat.sub_lt (Nat.pow_pos (by decide)) (by decide)
theorem and_lt {a b v : Nat} (h : a < 2 ^ v) : a &&& b < 2 ^ v := Nat.lt_of_le_of_lt Nat.and_le_left h
structure Fam (v : Nat) (ms : List Nat) : Prop where
  asc : ms.Pairwise (· < ·)
  lt : ∀ m ∈ ms, m < 2 ^ v
  top : 2 ^ v - 1 ∈ ms
  meet : ∀ a ∈ ms, ∀ b ∈ ms, a &&& b ∈ ms
/-- the law's way to round: from acc on -/
def rdF (l : Nat) : List Nat → Nat → Nat
  | [], acc => acc
  | m :: r, acc => rdF l r (if l &&& m = l then acc &&& m else acc)
def Rd (v : Nat) (ms : List Nat) (l : Nat) : Nat := rdF l ms (2 ^ v - 1)
section
variable {v : Nat} {ms : List Nat} (F : Fam v ms)
include F
end
/-! ### sharp steps -/
section
variable {v : Nat} {ms : List Nat} (F : Fam v ms) {r : List Nat} (hr : r.length = v) (hl : ∀ a ∈ r, a < 2 ^ v)
include F hr hl
end
end LW

set_option maxRecDepth 100000
set_option maxHeartbeats 2000000
namespace LW
open PySem PySem.Spec PyProof.Rows L2 DL
/-! ### rows of whole numbers as values -/
def rowD (r : List Nat) : List D := r.map fun n => D.int ((n : Nat) : Int)
/-- a row of v lots -/
def Good (v : Nat) (r : List Nat) : Prop := r.length = v ∧ ∀ a ∈ r, a < 2 ^ v
/-! ### sorted -/
def insN (x : Nat) : List Nat → List Nat
  | [] => [x]
  | y :: r => if x ≤ y then x :: y :: r else y :: insN x r
def sortN : List Nat → List Nat
  | [] => []
  | x :: r => insN x (sortN r)
theorem insN_perm (x : Nat) : ∀ l, (insN x l).Perm (x :: l)
  | [] => .refl _
  | y :: r => by
    unfold insN
    split
    · exact .refl _
    · exact ((insN_perm x r).cons y).trans (.swap x y r)
theorem sortN_perm : ∀ l, (sortN l).Perm l
  | [] => .refl _
  | x :: r => (insN_perm x _).trans ((sortN_perm r).cons x)
theorem insN_sorted (x : Nat) : ∀ l, l.Pairwise (· ≤ ·) → (insN x l).Pairwise (· ≤ ·)
  | [], _ => by simp [insN]
  | y :: r, h => by
    have h' := List.pairwise_cons.mp h
    unfold insN
    split
    · rename_i hx
      exact .cons (fun z hz => by
        rcases List.mem_cons.mp hz with rfl | hz
        · exact hx
        · exact Nat.le_trans hx (h'.1 z hz)) h
    · rename_i hx
      refine .cons (fun z hz => ?_) (insN_sorted x r h'.2)
      rcases List.mem_cons.mp ((insN_perm x r).mem_iff.mp hz) with rfl | hz
      · omega
      · exact h'.1 z hz
theorem sortN_sorted : ∀ l, (sortN l).Pairwise (· ≤ ·)
  | [] => .nil
  | x :: r => insN_sorted x _ (sortN_sorted r)
theorem asc_of {l : List Nat} (h : l.Pairwise (· ≤ ·)) (nd : l.Nodup) : l.Pairwise (· < ·) := by
  induction l with
  | nil => exact .nil
  | cons x r ih =>
    have h' := List.pairwise_cons.mp h
    have nd' := List.nodup_cons.mp nd
    exact .cons (fun y hy => Nat.lt_of_le_of_ne (h'.1 y hy) fun e => nd'.1 (e ▸ hy)) (ih h'.2 nd'.2)
theorem sortN_asc {l : List Nat} (nd : l.Nodup) : (sortN l).Pairwise (· < ·) := asc_of (sortN_sorted l) ((sortN_perm l).nodup_iff.mpr nd)
theorem asc_len : ∀ (l : List Nat) (lo n : Nat), l.Pairwise (· < ·) → (∀ x ∈ l, lo ≤ x ∧ x < n) → l.length ≤ n - lo
  | [], _, _, _, _ => Nat.zero_le _
  | x :: r, lo, n, h, hb => by
    have h' := List.pairwise_cons.mp h
    have hx := hb x List.mem_cons_self
    have ih := asc_len r (x + 1) n h'.2 fun y hy => ⟨h'.1 y hy, (hb y (List.mem_cons_of_mem _ hy)).2⟩
    simp only [List.length_cons]
    omega
theorem nodup_len {l : List Nat} {n : Nat} (nd : l.Nodup) (hb : ∀ x ∈ l, x < n) : l.length ≤ n := by
  have := asc_len (sortN l) 0 n (sortN_asc nd) fun x hx => ⟨Nat.zero_le _, hb x ((sortN_perm l).mem_iff.mp hx)⟩
  rw [(sortN_perm l).length_eq] at this
  omega
/-! ### all common parts -/
def meetIn (l : Nat) : List Nat → List Nat → List Nat
  | [], acc => acc
  | k :: r, acc => meetIn l r (if (k &&& l) ∈ acc then acc else acc ++ [k &&& l])
def metAll : List Nat → List Nat → List Nat
  | [], acc => acc
  | l :: r, acc => metAll r (meetIn l acc acc)
theorem meetIn_nodup (l : Nat) : ∀ (s acc : List Nat), acc.Nodup → (meetIn l s acc).Nodup
  | [], acc, h => h
  | k :: r, acc, h => by
    rw [meetIn]
    refine meetIn_nodup l r _ ?_
    split
    · exact h
    · rename_i hn
      exact List.nodup_append.mpr ⟨h, List.nodup_cons.mpr ⟨by simp, .nil⟩, fun a ha b hb e => hn (by
        have : b = k &&& l := by simpa using hb
        rw [← this, ← e]; exact ha)⟩
theorem meetIn_mem (l : Nat) : ∀ (s acc : List Nat) (x : Nat), x ∈ meetIn l s acc ↔ x ∈ acc ∨ ∃ k ∈ s, x = k &&& l
  | [], acc, x => by simp [meetIn]
  | k :: r, acc, x => by
    rw [meetIn, meetIn_mem l r _ x]
    have e : (x ∈ if (k &&& l) ∈ acc then acc else acc ++ [k &&& l]) ↔ x ∈ acc ∨ x = k &&& l := by
      split
      · rename_i h
        exact ⟨.inl, fun z => z.elim id fun z => z ▸ h⟩
      · simp
    rw [e]
    constructor
    · rintro ((h | h) | ⟨k', h1, h2⟩)
      · exact .inl h
      · exact .inr ⟨k, List.mem_cons_self, h⟩
      · exact .inr ⟨k', List.mem_cons_of_mem _ h1, h2⟩
    · rintro (h | ⟨k', h1, h2⟩)
      · exact .inl (.inl h)
      · rcases List.mem_cons.mp h1 with rfl | h1
        · exact .inl (.inr h2)
        · exact .inr ⟨k', h1, h2⟩
/-- lots that are unlike, with ALL and their common parts -/
structure Cl (v : Nat) (ks : List Nat) : Prop where
  nd : ks.Nodup
  lt : ∀ k ∈ ks, k < 2 ^ v
  top : 2 ^ v - 1 ∈ ks
  meet : ∀ a ∈ ks, ∀ b ∈ ks, a &&& b ∈ ks
theorem Cl.one (v : Nat) : Cl v [2 ^ v - 1] := by
  refine ⟨List.nodup_cons.mpr ⟨by simp, .nil⟩, fun k hk => ?_, List.mem_cons_self, fun a ha b hb => ?_⟩
  · have : k = 2 ^ v - 1 := by simpa using hk
    rw [this]; exact top_lt v
  · have e1 : a = 2 ^ v - 1 := by simpa using ha
    have e2 : b = 2 ^ v - 1 := by simpa using hb
    rw [e1, e2, Nat.and_self]; exact List.mem_cons_self
theorem Cl.meetIn {v : Nat} {ks : List Nat} (c : Cl v ks) (l : Nat) : Cl v (meetIn l ks ks) := by
  refine ⟨meetIn_nodup l ks ks c.nd, fun k hk => ?_, (meetIn_mem l ks ks _).mpr (.inl c.top), fun a ha b hb => ?_⟩
  · rcases (meetIn_mem l ks ks k).mp hk with h | ⟨j, h, rfl⟩
    · exact c.lt k h
    · exact and_lt (c.lt j h)
  · refine (meetIn_mem l ks ks _).mpr ?_
    rcases (meetIn_mem l ks ks a).mp ha with h | ⟨j, h, rfl⟩ <;> rcases (meetIn_mem l ks ks b).mp hb with h' | ⟨j', h', rfl⟩
    · exact .inl (c.meet a h b h')
    · exact .inr ⟨a &&& j', c.meet a h j' h', by rw [Nat.and_assoc]⟩
    · exact .inr ⟨j &&& b, c.meet j h b h', by rw [Nat.and_assoc, Nat.and_assoc, Nat.and_comm l b]⟩
    · refine .inr ⟨j &&& j', c.meet j h j' h', ?_⟩
      refine ext_bit fun i => ?_
      simp only [Nat.testBit_and, Bool.and_eq_true]
      constructor
      · rintro ⟨⟨h1, h2⟩, h3, h4⟩; exact ⟨⟨h1, h3⟩, h2⟩
      · rintro ⟨⟨h1, h2⟩, h3⟩; exact ⟨⟨h1, h3⟩, h2, h3⟩
theorem Cl.all {v : Nat} : ∀ (ls : List Nat) {ks : List Nat}, Cl v ks → Cl v (metAll ls ks)
  | [], _, c => c
  | l :: r, _, c => Cl.all r (c.meetIn l)
theorem Cl.len {v : Nat} {ks : List Nat} (c : Cl v ks) : ks.length ≤ 2 ^ v := nodup_len c.nd c.lt
def met (v : Nat) (ls : List Nat) : List Nat := sortN (metAll ls [2 ^ v - 1])
theorem Fam.len {v : Nat} {ms : List Nat} (F : Fam v ms) : ms.length ≤ 2 ^ v := by
  have := asc_len ms 0 (2 ^ v) F.asc fun x hx => ⟨Nat.zero_le _, F.lt x hx⟩
  omega
theorem Fam.ne {v : Nat} {ms : List Nat} (F : Fam v ms) : ms ≠ [] := fun e => by have := F.top; rw [e] at this; cases this
/-- the last member is ALL -/
theorem Fam.last {v : Nat} {ms : List Nat} (F : Fam v ms) : ms[ms.length - 1]? = some (2 ^ v - 1) := by
  obtain ⟨i, hi, e⟩ := List.mem_iff_getElem.mp F.top
  have hl : ms.length - 1 < ms.length := by omega
  rw [List.getElem?_eq_getElem hl]
  by_cases q : i = ms.length - 1
  · subst q; rw [e]
  · have h1 := List.pairwise_iff_getElem.mp F.asc i (ms.length - 1) hi hl (by omega)
    have h2 := F.lt _ (List.getElem_mem hl)
    rw [e] at h1
    omega
end LW

set_option maxRecDepth 100000
set_option maxHeartbeats 2000000
namespace LW
open PySem PySem.Spec PyProof.Rows L2 DL
/-! ### comprehensions over the items of a list of numbers -/
theorem comp_gen {A : D → DEnv → Option DEnv} {t : DT} {el : DE} {vs : List Nat} {δ : DEnv} {Γ : D → DEnv} (it g : Nat → D) (p : Nat → Bool) (hv : vsFree vs δ = true) (hA : ∀ z, A z (blkEnv vs δ) = some (Γ z)) (hb : ∀ z, backEnv δ (Γ z) = δ) : ∀ (ls : List Nat) (acc : List D), acc.length + ls.length ≤ 4096 →
    (∀ k ∈ ls, t (Γ (it k)) = .ok (p k) (Γ (it k)) ∧ (p k = true → el (Γ (it k)) = .ok (g k) (Γ (it k)))) → compL A t el vs (ls.map it) δ acc = .ok (.lst (acc ++ (ls.filter p).map g)) δ
  | [], acc, _, _ => by show EO.ok (D.lst acc) δ = _; simp
  | k :: ls, acc, hl, h => by
    have hl' : acc.length + (ls.length + 1) ≤ 4096 := hl
    obtain ⟨h1, h2⟩ := h k List.mem_cons_self
    rw [List.map_cons]
    cases q : p k with
    | false =>
      rw [q] at h1
      rw [c_skip A t el vs hv (hA _) h1, hb, comp_gen it g p hv hA hb ls acc (by omega) fun j hj => h j (List.mem_cons_of_mem _ hj), List.filter_cons_of_neg (by rw [q]; exact Bool.false_ne_true)]
    | true =>
      rw [q] at h1
      rw [c_turn A t el vs hv (hA _) h1 (h2 q) (by rw [sizeLine_eq]; omega), hb, comp_gen it g p hv hA hb ls (acc ++ [g k]) (by rw [List.length_append]; show acc.length + 1 + ls.length ≤ _; omega) fun j hj => h j (List.mem_cons_of_mem _ hj), List.filter_cons_of_pos q, List.map_cons, List.append_assoc]
      rfl
theorem comp_rowsG {A : D → DEnv → Option DEnv} {t : DT} {el : DE} {vs : List Nat} {δ : DEnv} {Γ : D → DEnv} (p : Nat → Bool) (g : Nat → D) (ls : List Nat) (hv : vsFree vs δ = true) (hA : ∀ z, A z (blkEnv vs δ) = some (Γ z)) (hb : ∀ z, backEnv δ (Γ z) = δ) (hl : ls.length ≤ 4096)
    (h : ∀ k ∈ ls, t (Γ (.int ((k : Nat) : Int))) = .ok (p k) (Γ (.int ((k : Nat) : Int))) ∧ (p k = true → el (Γ (.int ((k : Nat) : Int))) = .ok (g k) (Γ (.int ((k : Nat) : Int))))) :
    compL A t el vs (rowD ls) δ [] = .ok (.lst ((ls.filter p).map g)) δ := comp_gen (fun n => .int ((n : Nat) : Int)) g p hv hA hb ls [] (by simpa using hl) h
theorem comp_rows {A : D → DEnv → Option DEnv} {t : DT} {el : DE} {vs : List Nat} {δ : DEnv} {Γ : D → DEnv} (p : Nat → Bool) (ls : List Nat) (hv : vsFree vs δ = true) (hA : ∀ z, A z (blkEnv vs δ) = some (Γ z)) (hb : ∀ z, backEnv δ (Γ z) = δ) (hl : ls.length ≤ 4096)
    (h : ∀ k ∈ ls, t (Γ (.int ((k : Nat) : Int))) = .ok (p k) (Γ (.int ((k : Nat) : Int))) ∧ (p k = true → el (Γ (.int ((k : Nat) : Int))) = .ok (.int ((k : Nat) : Int)) (Γ (.int ((k : Nat) : Int))))) :
    compL A t el vs (rowD ls) δ [] = .ok (.lst (rowD (ls.filter p))) δ := comp_rowsG p _ ls hv hA hb hl h
/-! ### least and greatest lots -/
/-! ### sharp lots -/
section
variable {v : Nat} {ms r : List Nat} (F : Fam v ms) (g : Good v r)
include F g
end
end LW

set_option maxRecDepth 100000
set_option maxHeartbeats 2000000
namespace LW
open PySem PySem.Spec PyProof.Rows L2 DL
/-! ### cuts of rows -/
def Rt (v : Nat) (ms r : List Nat) (s m : Nat) : Bool := (Rd v ms (Bk r m)).testBit s && !(Bk r m).testBit s
def cutN (r : List Nat) (s m : Nat) : List Nat := r.set s (r.getD s 0 &&& m)
def RW (t r : List Nat) : Prop := t.length = r.length ∧ ∀ j, Wi (t.getD j 0) (r.getD j 0)
inductive Rc (v : Nat) (ms : List Nat) (r : List Nat) : List Nat → Prop
  | refl : Rc v ms r r
  | step {c : List Nat} {s m : Nat} : Rc v ms r c → m ∈ ms → s < v → Rt v ms c s m = true → Rc v ms r (cutN c s m)
theorem RW.refl (r : List Nat) : RW r r := ⟨rfl, fun _ => wi_refl _⟩
theorem RW.trans {a b c : List Nat} (h : RW a b) (g : RW b c) : RW a c := ⟨h.1.trans g.1, fun j => wi_trans (h.2 j) (g.2 j)⟩
section
variable {v : Nat} {ms : List Nat} (F : Fam v ms)
include F
end
/-! ### how many cuts there are -/
/-! ### cuts as values, judged one by one -/
def cd (s m : Nat) : D := .tup (rowD [s, m])
/-! parts of lots -/
end LW

set_option maxRecDepth 100000
set_option maxHeartbeats 2000000
namespace LW
open PySem PySem.Spec PyProof.Rows L2 DL
/-! ### sorted sets of whole numbers -/
def insU (x : Nat) : List Nat → List Nat
  | [] => [x]
  | y :: r => if x < y then x :: y :: r else if x = y then y :: r else y :: insU x r
def usN : List Nat → List Nat
  | [] => []
  | x :: r => insU x (usN r)
/-! ### lots met by sorted sets -/
def metS1 (acc : List Nat) (l : Nat) : List Nat := usN (acc ++ acc.map (l &&& ·))
def metS (V : Nat) (ls : List Nat) : List Nat := ls.foldl metS1 [2 ^ V - 1]
/-! ### boxes -/
def bx (m a b : Nat) : Nat → Nat
  | 0 => 0
  | x + 1 => bx m a b x ||| (if a.testBit x then b * 2 ^ (x * m) else 0)
/-- the three pairs -/
inductive Pq : Nat → Nat → Prop
  | a : Pq 2 2
  | b : Pq 2 3
  | c : Pq 3 2
section
variable {n m : Nat} (p : Pq n m)
include p
theorem Pq.b1 : 1 ≤ n ∧ n ≤ 3 ∧ 1 ≤ m ∧ m ≤ 3 ∧ 1 ≤ n * m ∧ n * m ≤ 6 := by cases p <;> decide
end
/-- the boxes of two lists of lots -/
def boxes (n m : Nat) (as bs : List Nat) : List Nat := as.flatMap fun a => bs.map fun b => bx m a b n
/-! ### comprehensions of two fors -/
end LW

set_option maxRecDepth 100000
set_option maxHeartbeats 0
namespace LW
open PySem PySem.Spec PyProof.Rows L2 DL
def top (i : Nat) : Stmt := PySem.Challenge.pw_truealarms_k37_whole_rewritings_told_and.main.body.getD i (.Pass ⟨0, 0, 0, 0⟩)
abbrev s_is_sequence : Stmt := top 4
abbrev N_is_sequence : List Str := ["thing"]
theorem sc_is_sequence : FnScope N_is_sequence ["thing"] (defScope s_is_sequence) := ⟨rfl, rfl, rfl, by decide +kernel, rfl, by decide +kernel, by decide +kernel⟩
abbrev s_rewriting_names : Stmt := top 8
abbrev N_rewriting_names : List Str := []
theorem sc_rewriting_names : FnScope N_rewriting_names [] (defScope s_rewriting_names) := ⟨rfl, rfl, rfl, by decide +kernel, rfl, by decide +kernel, by decide +kernel⟩
abbrev s__is_rewriting : Stmt := top 9
abbrev N__is_rewriting : List Str := ["thing"]
theorem sc__is_rewriting : FnScope N__is_rewriting ["thing"] (defScope s__is_rewriting) := ⟨rfl, rfl, rfl, by decide +kernel, rfl, by decide +kernel, by decide +kernel⟩
abbrev s__rewriting_of : Stmt := top 10
abbrev N__rewriting_of : List Str := ["name"]
theorem sc__rewriting_of : FnScope N__rewriting_of ["name"] (defScope s__rewriting_of) := ⟨rfl, rfl, rfl, by decide +kernel, rfl, by decide +kernel, by decide +kernel⟩
abbrev s_verdict_of : Stmt := top 11
abbrev N_verdict_of : List Str := ["name"]
theorem sc_verdict_of : FnScope N_verdict_of ["name"] (defScope s_verdict_of) := ⟨rfl, rfl, rfl, by decide +kernel, rfl, by decide +kernel, by decide +kernel⟩
abbrev s_letters_of : Stmt := top 12
abbrev N_letters_of : List Str := ["name"]
theorem sc_letters_of : FnScope N_letters_of ["name"] (defScope s_letters_of) := ⟨rfl, rfl, rfl, by decide +kernel, rfl, by decide +kernel, by decide +kernel⟩
abbrev s__filled : Stmt := top 13
abbrev N__filled : List Str := ["shape", "put", "part"]
theorem sc__filled : FnScope N__filled ["shape", "put"] (defScope s__filled) := ⟨rfl, rfl, rfl, by decide +kernel, rfl, by decide +kernel, by decide +kernel⟩
abbrev s_rewriting_pair : Stmt := top 14
abbrev N_rewriting_pair : List Str := ["name", "programs", "many", "left", "right", "put"]
theorem sc_rewriting_pair : FnScope N_rewriting_pair ["name", "programs"] (defScope s_rewriting_pair) := ⟨rfl, rfl, rfl, by decide +kernel, rfl, by decide +kernel, by decide +kernel⟩
abbrev s__law_hand : Stmt := top 16
abbrev N__law_hand : List Str := ["_law_script", "_law_total", "_law_cells", "_law_cell"]
theorem sc__law_hand : FnScope N__law_hand ["_law_script"] (defScope s__law_hand) := ⟨rfl, rfl, rfl, by decide +kernel, rfl, by decide +kernel, by decide +kernel⟩
abbrev s__law_mixed : Stmt := top 17
abbrev N__law_mixed : List Str := ["_law_number", "_law_turn", "_law_once", "_law_twice"]
theorem sc__law_mixed : FnScope N__law_mixed ["_law_number", "_law_turn"] (defScope s__law_mixed) := ⟨rfl, rfl, rfl, by decide +kernel, rfl, by decide +kernel, by decide +kernel⟩
abbrev s__law_take : Stmt := top 18
abbrev N__law_take : List Str := ["_law_hand_here", "_law_many", "_law_cell", "_law_rest"]
theorem sc__law_take : FnScope N__law_take ["_law_hand_here", "_law_many"] (defScope s__law_take) := ⟨rfl, rfl, rfl, by decide +kernel, rfl, by decide +kernel, by decide +kernel⟩
abbrev s__law_names : Stmt := top 19
abbrev N__law_names : List Str := ["_law_hand_here", "_law_many", "_law_pool", "_law_called", "_law_k", "_law_at"]
theorem sc__law_names : FnScope N__law_names ["_law_hand_here", "_law_many"] (defScope s__law_names) := ⟨rfl, rfl, rfl, by decide +kernel, rfl, by decide +kernel, by decide +kernel⟩
abbrev s__law_program : Stmt := top 20
abbrev N__law_program : List Str := ["_law_hand_here", "_law_called", "_law_leaves", "_law_deep", "_law_way", "_law_left", "_law_word_here", "_law_one"]
theorem sc__law_program : FnScope N__law_program ["_law_hand_here", "_law_called", "_law_leaves", "_law_deep"] (defScope s__law_program) := ⟨rfl, rfl, rfl, by decide +kernel, rfl, by decide +kernel, by decide +kernel⟩
abbrev s__law_list : Stmt := top 21
abbrev N__law_list : List Str := ["_law_hand_here", "_law_items"]
theorem sc__law_list : FnScope N__law_list ["_law_hand_here", "_law_items"] (defScope s__law_list) := ⟨rfl, rfl, rfl, by decide +kernel, rfl, by decide +kernel, by decide +kernel⟩
abbrev s__law_int : Stmt := top 22
abbrev N__law_int : List Str := ["_law_thing"]
theorem sc__law_int : FnScope N__law_int ["_law_thing"] (defScope s__law_int) := ⟨rfl, rfl, rfl, by decide +kernel, rfl, by decide +kernel, by decide +kernel⟩
abbrev s__law_exact : Stmt := top 23
abbrev N__law_exact : List Str := ["_law_told", "_law_due", "_law_k"]
theorem sc__law_exact : FnScope N__law_exact ["_law_told", "_law_due"] (defScope s__law_exact) := ⟨rfl, rfl, rfl, by decide +kernel, rfl, by decide +kernel, by decide +kernel⟩
abbrev s__law_table : Stmt := top 24
abbrev N__law_table : List Str := ["_law_rr", "_law_still", "_law_loop"]
theorem sc__law_table : FnScope N__law_table [] (defScope s__law_table) := ⟨rfl, rfl, rfl, by decide +kernel, rfl, by decide +kernel, by decide +kernel⟩
abbrev s__law_put : Stmt := top 25
abbrev N__law_put : List Str := ["_law_shape", "_law_letters_here", "_law_inner"]
theorem sc__law_put : FnScope N__law_put ["_law_shape", "_law_letters_here"] (defScope s__law_put) := ⟨rfl, rfl, rfl, by decide +kernel, rfl, by decide +kernel, by decide +kernel⟩
abbrev s__law_letters : Stmt := top 26
abbrev N__law_letters : List Str := ["_law_hand_here", "_law_called", "_law_many", "_law_leaves", "_law_deep", "_law_letters_here", "_law_k"]
theorem sc__law_letters : FnScope N__law_letters ["_law_hand_here", "_law_called", "_law_many", "_law_leaves", "_law_deep"] (defScope s__law_letters) := ⟨rfl, rfl, rfl, by decide +kernel, rfl, by decide +kernel, by decide +kernel⟩
abbrev s__law_word : Stmt := top 27
abbrev N__law_word : List Str := ["_law_way", "_law_name", "_law_programs", "e"]
theorem sc__law_word : FnScope N__law_word ["_law_way", "_law_name", "_law_programs"] (defScope s__law_word) := ⟨rfl, rfl, rfl, by decide +kernel, rfl, by decide +kernel, by decide +kernel⟩
abbrev s_law : Stmt := top 28
abbrev N_law : List Str := ["_law_script", "_law_hand_here", "_law_table_here", "_law_first", "_law_turn", "_law_entry", "_law_called", "_law_letters_here", "_law_given", "_law_due", "_law_strange", "_law_odd", "_law_wrong", "_law_way"]
theorem sc_law : FnScope N_law ["_law_script"] (defScope s_law) := ⟨rfl, rfl, rfl, by decide +kernel, rfl, by decide +kernel, by decide +kernel⟩
abbrev s_x_BadRewriting : Stmt := (clsBody (top 2)).getD 0 (.Pass ⟨0, 0, 0, 0⟩)
theorem sc_x_BadRewriting : FnScope ["self", "what"] ["self", "what"] (defScope s_x_BadRewriting) := ⟨rfl, rfl, rfl, by decide +kernel, rfl, by decide +kernel, by decide +kernel⟩
def tabL : List (Str × Str × Bool) := ([("CheckerError", "CheckerError", true), ("CheckerError", "BadRewriting", false), ("BadRewriting", "CheckerError", true), ("BadRewriting", "BadRewriting", true)] : List (Str × Str × Bool))
def tabE (a b : Str) : Option Bool := tabOf tabL a b
def kvd_REWRITINGS : List (Str × D) := [("bracket_behind", (.tup [(.int 3), (.tup [(.str "behind"), (.tup [(.str "behind"), (.str "r"), (.str "s")]), (.str "t")]), (.tup [(.str "behind"), (.str "r"), (.tup [(.str "behind"), (.str "s"), (.str "t")])]), (.str "alike")])), ("drop_first", (.tup [(.int 1), (.tup [(.str "behind"), (.tup [(.str "nothing")]), (.str "r")]), (.str "r"), (.str "alike")])), ("drop_last", (.tup [(.int 1), (.tup [(.str "behind"), (.str "r"), (.tup [(.str "nothing")])]), (.str "r"), (.str "alike")])), ("drop_double", (.tup [(.int 1), (.tup [(.str "either"), (.str "r"), (.str "r")]), (.str "r"), (.str "alike")])), ("turn_either", (.tup [(.int 2), (.tup [(.str "either"), (.str "r"), (.str "s")]), (.tup [(.str "either"), (.str "s"), (.str "r")]), (.str "alike")])), ("bracket_either", (.tup [(.int 3), (.tup [(.str "either"), (.tup [(.str "either"), (.str "r"), (.str "s")]), (.str "t")]), (.tup [(.str "either"), (.str "r"), (.tup [(.str "either"), (.str "s"), (.str "t")])]), (.str "alike")])), ("spread_first", (.tup [(.int 3), (.tup [(.str "behind"), (.str "r"), (.tup [(.str "either"), (.str "s"), (.str "t")])]), (.tup [(.str "either"), (.tup [(.str "behind"), (.str "r"), (.str "s")]), (.tup [(.str "behind"), (.str "r"), (.str "t")])]), (.str "alike")])), ("again_once", (.tup [(.int 1), (.tup [(.str "again"), (.tup [(.str "again"), (.str "r")])]), (.tup [(.str "again"), (.str "r")]), (.str "alike")])), ("again_twice", (.tup [(.int 1), (.tup [(.str "behind"), (.tup [(.str "again"), (.str "r")]), (.tup [(.str "again"), (.str "r")])]), (.tup [(.str "again"), (.str "r")]), (.str "alike")])), ("again_mixed", (.tup [(.int 2), (.tup [(.str "again"), (.tup [(.str "either"), (.str "r"), (.str "s")])]), (.tup [(.str "again"), (.tup [(.str "behind"), (.tup [(.str "again"), (.str "r")]), (.tup [(.str "again"), (.str "s")])])]), (.str "alike")])), ("again_ended", (.tup [(.int 1), (.tup [(.str "again"), (.str "r")]), (.tup [(.str "either"), (.tup [(.str "nothing")]), (.tup [(.str "behind"), (.tup [(.str "again"), (.str "r")]), (.str "r")])]), (.str "alike")])), ("again_turns", (.tup [(.int 2), (.tup [(.str "again"), (.tup [(.str "either"), (.str "r"), (.str "s")])]), (.tup [(.str "behind"), (.tup [(.str "again"), (.tup [(.str "behind"), (.tup [(.str "again"), (.str "r")]), (.str "s")])]), (.tup [(.str "again"), (.str "r")])]), (.str "alike")])), ("spread_last", (.tup [(.int 3), (.tup [(.str "behind"), (.tup [(.str "either"), (.str "r"), (.str "s")]), (.str "t")]), (.tup [(.str "either"), (.tup [(.str "behind"), (.str "r"), (.str "t")]), (.tup [(.str "behind"), (.str "s"), (.str "t")])]), (.str "sharper")])), ("unroll", (.tup [(.int 1), (.tup [(.str "again"), (.str "r")]), (.tup [(.str "either"), (.tup [(.str "nothing")]), (.tup [(.str "behind"), (.str "r"), (.tup [(.str "again"), (.str "r")])])]), (.str "sharper")])), ("slide_one", (.tup [(.int 1), (.tup [(.str "behind"), (.tup [(.str "again"), (.str "r")]), (.str "r")]), (.tup [(.str "behind"), (.str "r"), (.tup [(.str "again"), (.str "r")])]), (.str "sharper")])), ("slide_two", (.tup [(.int 2), (.tup [(.str "behind"), (.tup [(.str "again"), (.tup [(.str "behind"), (.str "r"), (.str "s")])]), (.str "r")]), (.tup [(.str "behind"), (.str "r"), (.tup [(.str "again"), (.tup [(.str "behind"), (.str "s"), (.str "r")])])]), (.str "sharper")])), ("part_again", (.tup [(.int 2), (.tup [(.str "again"), (.tup [(.str "either"), (.str "r"), (.str "s")])]), (.tup [(.str "behind"), (.tup [(.str "again"), (.str "r")]), (.tup [(.str "again"), (.tup [(.str "behind"), (.str "s"), (.tup [(.str "again"), (.str "r")])])])]), (.str "sharper")])), ("halve_again", (.tup [(.int 1), (.tup [(.str "again"), (.str "r")]), (.tup [(.str "behind"), (.tup [(.str "either"), (.tup [(.str "nothing")]), (.str "r")]), (.tup [(.str "again"), (.tup [(.str "behind"), (.str "r"), (.str "r")])])]), (.str "sharper")]))]
/-! ### the head -/
def fa : List He.Fa := [.free "abs", .free "bool", .free "dict", .free "int", .free "isinstance", .free "len", .free "list", .free "range", .free "str", .free "tuple", .free "zip", .glo "LETTERS", .glo "REWRITINGS", .glo "CheckerError", .exc "CheckerError", .glo "BadRewriting", .noat "BadRewriting" "what", .exm "CheckerError" "CheckerError" true, .exm "CheckerError" "BadRewriting" false, .exm "BadRewriting" "CheckerError" true, .exm "BadRewriting" "BadRewriting" true, .glo "is_sequence", .glo "rewriting_names", .glo "_is_rewriting", .glo "_rewriting_of", .glo "verdict_of", .glo "letters_of", .glo "_filled", .glo "rewriting_pair", .glo "_law_hand", .glo "_law_mixed", .glo "_law_take", .glo "_law_names", .glo "_law_program", .glo "_law_list", .glo "_law_int", .glo "_law_exact", .glo "_law_table", .glo "_law_put", .glo "_law_letters", .glo "_law_word", .glo "law"]
def exs : List (PySem.W.Frag → Bool) := [(fun K => ktpB K (He.ga K "LETTERS") ["r", "s", "t"]), (fun K => ktdB K (He.ga K "REWRITINGS") kvd_REWRITINGS), (fun K => oexB K (He.ga K "BadRewriting")), (fun K => xinB K (He.ga K "BadRewriting")), (fun K => xtyB K (He.ga K "BadRewriting")), (fun K => xfB K (He.ga K "BadRewriting"))]
def d_is_sequence : He5.DefA := ⟨fun K => He.ga K "is_sequence", "is_sequence", "is_sequence", defArgs s_is_sequence, defBody s_is_sequence, defScope s_is_sequence, [], []⟩
def d_rewriting_names : He5.DefA := ⟨fun K => He.ga K "rewriting_names", "rewriting_names", "rewriting_names", defArgs s_rewriting_names, defBody s_rewriting_names, defScope s_rewriting_names, [], []⟩
def d__is_rewriting : He5.DefA := ⟨fun K => He.ga K "_is_rewriting", "_is_rewriting", "_is_rewriting", defArgs s__is_rewriting, defBody s__is_rewriting, defScope s__is_rewriting, [], []⟩
def d__rewriting_of : He5.DefA := ⟨fun K => He.ga K "_rewriting_of", "_rewriting_of", "_rewriting_of", defArgs s__rewriting_of, defBody s__rewriting_of, defScope s__rewriting_of, [], []⟩
def d_verdict_of : He5.DefA := ⟨fun K => He.ga K "verdict_of", "verdict_of", "verdict_of", defArgs s_verdict_of, defBody s_verdict_of, defScope s_verdict_of, [], []⟩
def d_letters_of : He5.DefA := ⟨fun K => He.ga K "letters_of", "letters_of", "letters_of", defArgs s_letters_of, defBody s_letters_of, defScope s_letters_of, [], []⟩
def d__filled : He5.DefA := ⟨fun K => He.ga K "_filled", "_filled", "_filled", defArgs s__filled, defBody s__filled, defScope s__filled, [], []⟩
def d_rewriting_pair : He5.DefA := ⟨fun K => He.ga K "rewriting_pair", "rewriting_pair", "rewriting_pair", defArgs s_rewriting_pair, defBody s_rewriting_pair, defScope s_rewriting_pair, [], []⟩
def d__law_hand : He5.DefA := ⟨fun K => He.ga K "_law_hand", "_law_hand", "_law_hand", defArgs s__law_hand, defBody s__law_hand, defScope s__law_hand, [], []⟩
def d__law_mixed : He5.DefA := ⟨fun K => He.ga K "_law_mixed", "_law_mixed", "_law_mixed", defArgs s__law_mixed, defBody s__law_mixed, defScope s__law_mixed, [], []⟩
def d__law_take : He5.DefA := ⟨fun K => He.ga K "_law_take", "_law_take", "_law_take", defArgs s__law_take, defBody s__law_take, defScope s__law_take, [], []⟩
def d__law_names : He5.DefA := ⟨fun K => He.ga K "_law_names", "_law_names", "_law_names", defArgs s__law_names, defBody s__law_names, defScope s__law_names, [], []⟩
def d__law_program : He5.DefA := ⟨fun K => He.ga K "_law_program", "_law_program", "_law_program", defArgs s__law_program, defBody s__law_program, defScope s__law_program, [], []⟩
def d__law_list : He5.DefA := ⟨fun K => He.ga K "_law_list", "_law_list", "_law_list", defArgs s__law_list, defBody s__law_list, defScope s__law_list, [], []⟩
def d__law_int : He5.DefA := ⟨fun K => He.ga K "_law_int", "_law_int", "_law_int", defArgs s__law_int, defBody s__law_int, defScope s__law_int, [], []⟩
def d__law_exact : He5.DefA := ⟨fun K => He.ga K "_law_exact", "_law_exact", "_law_exact", defArgs s__law_exact, defBody s__law_exact, defScope s__law_exact, [], []⟩
def d__law_table : He5.DefA := ⟨fun K => He.ga K "_law_table", "_law_table", "_law_table", defArgs s__law_table, defBody s__law_table, defScope s__law_table, [], []⟩
def d__law_put : He5.DefA := ⟨fun K => He.ga K "_law_put", "_law_put", "_law_put", defArgs s__law_put, defBody s__law_put, defScope s__law_put, [], []⟩
def d__law_letters : He5.DefA := ⟨fun K => He.ga K "_law_letters", "_law_letters", "_law_letters", defArgs s__law_letters, defBody s__law_letters, defScope s__law_letters, [], []⟩
def d__law_word : He5.DefA := ⟨fun K => He.ga K "_law_word", "_law_word", "_law_word", defArgs s__law_word, defBody s__law_word, defScope s__law_word, [], []⟩
def d_law : He5.DefA := ⟨fun K => He.ga K "law", "law", "law", defArgs s_law, defBody s_law, defScope s_law, [], []⟩
def d_x_BadRewriting : He5.DefA := ⟨fun K => He.ma K (He.ga K "BadRewriting") "__init__", "__init__", "BadRewriting.__init__", defArgs s_x_BadRewriting, defBody s_x_BadRewriting, defScope s_x_BadRewriting, [], []⟩
def fn : List He5.DefA := [d_is_sequence, d_rewriting_names, d__is_rewriting, d__rewriting_of, d_verdict_of, d_letters_of, d__filled, d_rewriting_pair, d__law_hand, d__law_mixed, d__law_take, d__law_names, d__law_program, d__law_list, d__law_int, d__law_exact, d__law_table, d__law_put, d__law_letters, d__law_word, d_law, d_x_BadRewriting]
abbrev R : PySem.W.OpenRow := PySem.W.OpenLaw.row PySem.Challenge.rw_truealarms_k37_whole_rewritings_told_and
def tabs : List He.Tab := [(fun K => He.ga K "REWRITINGS", ["bracket_behind", "drop_first", "drop_last", "drop_double", "turn_either", "bracket_either", "spread_first", "again_once", "again_twice", "again_mixed", "again_ended", "again_turns", "spread_last", "unroll", "slide_one", "slide_two", "part_again", "halve_again"])]
def adr : List Addr := List.range 340
abbrev hk : PySem.W.Hook := hookL adr fa fn exs tabs
def ob (s : PySem.W.SharedT) : AlY := obsLG adr fa fn exs tabs (HandSHeadRun.getT s)
theorem ob_eq (s : PySem.W.SharedT) : ob s = hk.obs s.abs := obsLG_eq (HandSHeadRun.getT_eq s)
def loose0 : List Str := ["CheckerError", "BadRewriting", "LETTERS", "REWRITINGS", "is_sequence", "rewriting_names", "_is_rewriting", "_rewriting_of", "verdict_of", "letters_of", "_filled", "rewriting_pair"]
def loose1 : List Str := ["_law_hand", "_law_mixed", "_law_take", "_law_names", "_law_program", "_law_list", "_law_int", "_law_exact", "_law_table", "_law_put", "_law_letters", "_law_word"]
def loose : List Str := loose0 ++ loose1
section
open PySem PySem.W PySem.Calls PyProof.Rows HandSHeadRun
theorem opt3 {α β γ δ : Type} {o : Option α} {f : α → β} {g : α → γ} {h : α → δ} {b : β} {c : γ} {d : δ} (h1 : o.map f = some b) (h2 : o.map g = some c) (h3 : o.map h = some d) : o.map (fun s => (f s, g s, h s)) = some (b, c, d) := by
  cases o with
  | none => cases h1
  | some x =>
    rw [← (Option.some.inj h1 : f x = b), ← (Option.some.inj h2 : g x = c), ← (Option.some.inj h3 : h x = d)]
    rfl
def RunP1 (w : World) : Prop := ∀ os : OsState, (endF (stepQ (denQ tabQ) R.prog w) 2400 R.prog w os).map (fun s => looksF R.prog (boot_heap w.params) s.abs) = some true
theorem run1f (w : World) : RunP1 (PySem.World.withFollow w "special-get-raises" false) := fun os => by kernel_rfl
theorem run1t (w : World) : RunP1 (PySem.World.withFollow w "special-get-raises" true) := fun os => by kernel_rfl
theorem run1 (w : World) : RunP1 w := PySem.W.byRow2 "special-get-raises" (P := RunP1) run1f run1t w
def RunP2 (w : World) : Prop := ∀ os : OsState, (endF (stepQ (denQ tabQ) R.prog w) 2400 R.prog w os).map (fun s => seenQ (PySem.W.view R.prog [28]) loose (importedModules R.prog.main.body) (fun s => xlAt (PySem.W.view R.prog [28]) [] s && recOk R.toRowW.records s) s.abs) = some (openGood (PySem.W.view R.prog [28]) loose)
theorem run2f (w : World) : RunP2 (PySem.World.withFollow w "special-get-raises" false) := fun os => by kernel_rfl
theorem run2t (w : World) : RunP2 (PySem.World.withFollow w "special-get-raises" true) := fun os => by kernel_rfl
theorem run2 (w : World) : RunP2 w := PySem.W.byRow2 "special-get-raises" (P := RunP2) run2f run2t w
def RunP3 (w : World) : Prop := ∀ os : OsState, (endF (stepQ (denQ tabQ) R.prog w) 2400 R.prog w os).map ob = some (valY fn tabs w)
theorem run3f (w : World) : RunP3 (PySem.World.withFollow w "special-get-raises" false) := fun os => by kernel_rfl
theorem run3t (w : World) : RunP3 (PySem.World.withFollow w "special-get-raises" true) := fun os => by kernel_rfl
theorem run3 (w : World) : RunP3 w := PySem.W.byRow2 "special-get-raises" (P := RunP3) run3f run3t w
theorem run (w : World) : HandSHeadRun.RunEq R (PySem.W.view R.prog [28]) hk ob 2400 loose w := fun os => opt3 (run1 w os) (run2 w os) (run3 w os)
end
/-! ### what the defs do -/
def F_is_sequence : DS := (sRet (dIsi ["list", "tuple"] (dVar 0)))
def fn_is_sequence : List D → FO := defF [false] 1 F_is_sequence
def F_rewriting_names : DS := (sRet (dC (tupM kvd_REWRITINGS)))
def fn_rewriting_names : List D → FO := defF [] 0 F_rewriting_names
def F__is_rewriting : DS := (sRet (dAnd (dIsi ["str"] (dVar 0)) (dUn (inM false kvd_REWRITINGS) (dVar 0))))
def fn__is_rewriting : List D → FO := defF [false] 1 F__is_rewriting
def F__rewriting_of : DS := (sSeq (sIf (tNotD (dTru (dCall [false] [] fn__is_rewriting (dCons (dVar 0) dNil)))) (sRaiseF "BadRewriting" ["what"] (dCons (dC (.str "name")) dNil)) sNil) (sRet (dUn (ixM kvd_REWRITINGS) (dVar 0))))
def fn__rewriting_of : List D → FO := defF [false] 1 F__rewriting_of
def F_verdict_of : DS := (sRet (dBin idxD (dCall [false] [] fn__rewriting_of (dCons (dVar 0) dNil)) (dC (.int 3))))
def fn_verdict_of : List D → FO := defF [false] 1 F_verdict_of
def F_letters_of : DS := (sRet (dBin idxD (dCall [false] [] fn__rewriting_of (dCons (dVar 0) dNil)) (dC (.int 0))))
def fn_letters_of : List D → FO := defF [false] 1 F_letters_of
def E__filled_0 (self : List D → FO) : DE := (dCall [false, false] [] self (dCons (dVar 2) (dCons (dVar 1) dNil)))
def F__filled (self : List D → FO) : DS := (sSeq (sIf (dTru (dIsi ["str"] (dVar 0))) (sRet (dIxK 1 (dVar 0))) sNil) (sRet (dBin gAdd (dTup (dCons (dIxV 0 (dC (.int 0))) dNil)) (dCallB gTuple (dCons (dComp (dIt (dSl (dVar 0) (some (dC (.int 1))) none)) (setV 2) dYes (E__filled_0 self) [2]) dNil)))))
def fn__filled : Nat → List D → FO
  | 0 => fun _ => .st
  | n + 1 => defF [false, false] 3 (F__filled (fn__filled n))
def F_rewriting_pair : DS := (sSeq (sUnp (dUnp [2, 3, 4]) (dSl (dCall [false] [] fn__rewriting_of (dCons (dVar 0) dNil)) none (some (dC (.int 3))))) (sSeq (sIf (tOrD (tNotD (dTru (dCall [false] [] fn_is_sequence (dCons (dVar 1) dNil)))) (dTest (dBin (gEq true) (dLenV 1) (dVar 2)))) (sRaiseF "BadRewriting" ["what"] (dCons (dC (.str "many")) dNil)) sNil) (sSeq (sSet 5 (dCallB gDictZipB (dCons (dC (.tup [.str "r", .str "s", .str "t"])) (dCons (dVar 1) dNil)))) (sRet (dTup (dCons (dCall [false, false] [] (fn__filled 5) (dCons (dVar 3) (dCons (dVar 5) dNil))) (dCons (dCall [false, false] [] (fn__filled 5) (dCons (dVar 4) (dCons (dVar 5) dNil))) dNil)))))))
def fn_rewriting_pair : List D → FO := defF [false, false] 6 F_rewriting_pair
def B__law_hand_0 : DS := (sSeq (sSet 1 (dBin (gI cPos fun i j => i % j) (dCallB gInt1 (dCons (dBin gAdd (dBin (gI cMul fun i j => i * j) (dVar 1) (dC (.int 1721))) (dCallB gInt1 (dCons (dVar 3) dNil))) dNil)) (dC (.int 2147483549)))) (sApp 2 (dCallB gAbs (dCons (dCallB gInt1 (dCons (dVar 3) dNil)) dNil))))
def F__law_hand : DS := (sSeq (sSet 1 (dBin gAdd (dLenV 0) (dC (.int 41)))) (sSeq (sSetO 2 (dLst dNil)) (sSeq (sFor (dIt (dVar 0)) (setV 3) B__law_hand_0) (sRetO (dLst (dCons (dVar 2) (dCons (dC (.int 0)) (dCons (dC (.int 0)) (dCons (dVar 1) dNil)))))))))
def fn__law_hand : List D → FO := defF [false] 4 F__law_hand
def F__law_mixed : DS := (sSeq (sSet 2 (dBin (gI cPos fun i j => i % j) (dCallB gInt1 (dCons (dBin gAdd (dBin gAdd (dBin (gI cMul fun i j => i * j) (dVar 0) (dC (.int 48271))) (dBin (gI cMul fun i j => i * j) (dVar 1) (dC (.int 7919)))) (dC (.int 30011))) dNil)) (dC (.int 2147483399)))) (sSeq (sSet 3 (dBin (gI cPos fun i j => i % j) (dCallB gInt1 (dCons (dBin gAdd (dBin gAdd (dBin (gI cMul fun i j => i * j) (dVar 2) (dVar 2)) (dBin (gI cMul fun i j => i * j) (dVar 1) (dC (.int 92821)))) (dBin (gI cDiv fun i j => i / j) (dVar 2) (dC (.int 131)))) dNil)) (dC (.int 2147483629)))) (sRet (dBin (gI cDiv fun i j => i / j) (dCallB gInt1 (dCons (dBin (gI cPos fun i j => i % j) (dCallB gInt1 (dCons (dBin gAdd (dBin (gI cMul fun i j => i * j) (dVar 3) (dC (.int 69621))) (dBin (gI cDiv fun i j => i / j) (dVar 2) (dC (.int 13)))) dNil)) (dC (.int 2147483587))) dNil)) (dC (.int 32))))))
def fn__law_mixed : List D → FO := defF [false, false] 4 F__law_mixed
def F__law_take : DS := (sSeq (sIf (tAndD (dTest (dBin (gEq false) (dIxV 0 (dC (.int 2))) (dC (.int 0)))) (dTest (dBin (gB fun i j => decide (i < j)) (dIxV 0 (dC (.int 1))) (dCallB gLen (dCons (dIxV 0 (dC (.int 0))) dNil))))) (sSeq (sSet 2 (dBin idxD (dIxV 0 (dC (.int 0))) (dIxV 0 (dC (.int 1))))) (sSeq (sPut 0 (dBin gAdd (dIxV 0 (dC (.int 1))) (dC (.int 1))) (dC (.int 1))) (sSeq (sIf (dTest (dBin (gB fun i j => decide (i < j)) (dVar 2) (dBin (gI cPow fun i j => i ^ j.toNat) (dC (.int 10)) (dC (.int 18))))) (sRet (dBin (gI cPos fun i j => i % j) (dCallB gInt1 (dCons (dCall [false, false] [] fn__law_mixed (dCons (dBin (gI cPos fun i j => i % j) (dCallB gInt1 (dCons (dVar 2) dNil)) (dC (.int 2147483399))) (dCons (dIxV 0 (dC (.int 1))) dNil))) dNil)) (dVar 1))) sNil) (sPut 0 (dVar 2) (dC (.int 2)))))) sNil) (sSeq (sIf (dTest (dBin (gB fun i j => decide (j < i)) (dIxV 0 (dC (.int 2))) (dC (.int 0)))) (sSeq (sSet 3 (dIxV 0 (dC (.int 2)))) (sSeq (sPut 0 (dBin (gI cDiv fun i j => i / j) (dCallB gInt1 (dCons (dVar 3) dNil)) (dVar 1)) (dC (.int 2))) (sRet (dBin (gI cPos fun i j => i % j) (dCallB gInt1 (dCons (dVar 3) dNil)) (dVar 1))))) sNil) (sSeq (sPut 0 (dBin (gI cPos fun i j => i % j) (dCallB gInt1 (dCons (dBin gAdd (dIxV 0 (dC (.int 3))) (dC (.int 1))) dNil)) (dC (.int 2147483549))) (dC (.int 3))) (sRet (dBin (gI cPos fun i j => i % j) (dCallB gInt1 (dCons (dCall [false, false] [] fn__law_mixed (dCons (dIxV 0 (dC (.int 3))) (dCons (dIxV 0 (dC (.int 1))) dNil))) dNil)) (dVar 1))))))
def fn__law_take : List D → FO := defF [true, false] 4 F__law_take
def B__law_names_0 : DS := (sSeq (sSet 5 (dCall [true, false] [] fn__law_take (dRefA 0 (dCons (dLenV 2) dNil)))) (sSeq (sApp 3 (dIxV 2 (dVar 5))) (sSet 2 (dBin gAdd (dSl (dVar 2) none (some (dVar 5))) (dSl (dVar 2) (some (dBin gAdd (dVar 5) (dC (.int 1)))) none)))))
def F__law_names : DS := (sSeq (sSet 2 (dC (.lst [(.str "f"), (.str "g"), (.str "h"), (.str "ab"), (.str "zz"), (.str "go"), (.str "longname"), (.str "n"), (.str "nothings"), (.str "a")]))) (sSeq (sIf (dTru (dCall [true, false] [] fn__law_take (dRefA 0 (dCons (dC (.int 2)) dNil)))) (sSet 2 (dC (.lst [(.str "r"), (.str "s"), (.str "t"), (.str "again"), (.str "step"), (.str "either"), (.str "behind"), (.str "back"), (.str "meet"), (.str "f")]))) sNil) (sSeq (sSetO 3 (dLst dNil)) (sSeq (sFor (dRg1 (dVar 1)) (setV 4) B__law_names_0) (sRet (dVar 3))))))
def fn__law_names : List D → FO := defF [true, false] 6 F__law_names
def F__law_program (self : List D → FO) : DS := (sSeq (sSet 4 (dCall [true, false] [] fn__law_take (dRefA 0 (dCons (dC (.int 8)) dNil)))) (sSeq (sIf (tAndD (dTest (dBin (gB fun i j => decide (j < i)) (dVar 3) (dC (.int 0)))) (dTest (dBin (gB fun i j => decide (i < j)) (dVar 4) (dC (.int 2))))) (sRet (dTup (dCons (dC (.str "again")) (dCons (dCall [true, false, false, false] [] self (dRefA 0 (dCons (dVar 1) (dCons (dVar 2) (dCons (dBin (gI (fun _ _ => true) fun i j => i - j) (dVar 3) (dC (.int 1))) dNil))))) dNil)))) sNil) (sSeq (sIf (dTest (dBin (gB fun i j => decide (i < j)) (dVar 2) (dC (.int 2)))) (sSeq (sIf (tAndD (dTest (dBin (gEq false) (dVar 4) (dC (.int 7)))) (dTest (dBin (gEq false) (dCall [true, false] [] fn__law_take (dRefA 0 (dCons (dC (.int 3)) dNil))) (dC (.int 0))))) (sRet (dTup (dCons (dC (.str "nothing")) dNil))) sNil) (sRet (dTup (dCons (dC (.str "step")) (dCons (dIxV 1 (dCall [true, false] [] fn__law_take (dRefA 0 (dCons (dLenV 1) dNil)))) dNil))))) sNil) (sSeq (sSet 5 (dBin gAdd (dC (.int 1)) (dCall [true, false] [] fn__law_take (dRefA 0 (dCons (dBin (gI (fun _ _ => true) fun i j => i - j) (dVar 2) (dC (.int 1))) dNil))))) (sSeq (sSet 6 (dIf (dTest (dBin (gB fun i j => decide (i < j)) (dVar 4) (dC (.int 5)))) (dC (.str "behind")) (dC (.str "either")))) (sSeq (sSet 7 (dCall [true, false, false, false] [] self (dRefA 0 (dCons (dVar 1) (dCons (dVar 5) (dCons (dVar 3) dNil)))))) (sRet (dTup (dCons (dVar 6) (dCons (dVar 7) (dCons (dCall [true, false, false, false] [] self (dRefA 0 (dCons (dVar 1) (dCons (dBin (gI (fun _ _ => true) fun i j => i - j) (dVar 2) (dVar 5)) (dCons (dVar 3) dNil))))) dNil)))))))))))
def fn__law_program : Nat → List D → FO
  | 0 => fun _ => .st
  | n + 1 => defF [true, false, false, false] 8 (F__law_program (fn__law_program n))
def F__law_list : DS := (sRet (dIf (dTru (dCall [true, false] [] fn__law_take (dRefA 0 (dCons (dC (.int 2)) dNil)))) (dCallB gList (dCons (dVar 1) dNil)) (dCallB gTuple (dCons (dVar 1) dNil))))
def fn__law_list : List D → FO := defF [true, false] 2 F__law_list
def F__law_int : DS := (sRet (dAnd (dIsi ["int"] (dVar 0)) (dNot (dIsi ["bool"] (dVar 0)))))
def fn__law_int : List D → FO := defF [false] 1 F__law_int
def Q__law_exact_0 (self : List D → FO) : DT := (tNotD (dTru (dCall [false, false] [] self (dCons (dIxV 0 (dVar 2)) (dCons (dIxV 1 (dVar 2)) dNil)))))
def E__law_exact_0 (self : List D → FO) : DE := (dVar 2)
def F__law_exact (self : List D → FO) : DS := (sSeq (sIf (dTru (dIsi ["tuple"] (dVar 1))) (sSeq (sIf (tOrD (tNotD (dTru (dIsi ["tuple"] (dVar 0)))) (dTest (dBin (gEq true) (dLenV 0) (dLenV 1)))) (sRet (dC (.bl false))) sNil) (sRet (dBin (gEq false) (dComp (dRg1 (dLenV 1)) (setV 2) (Q__law_exact_0 self) (E__law_exact_0 self) [2]) (dLst dNil)))) sNil) (sSeq (sIf (dTest (dBin (gIs false) (dVar 1) (dC .non))) (sRet (dBin (gIs false) (dVar 0) (dC .non))) sNil) (sSeq (sIf (dTru (dIsi ["bool"] (dVar 1))) (sRet (dIf (dTruV 1) (dBin (gIs false) (dVar 0) (dC (.bl true))) (dBin (gIs false) (dVar 0) (dC (.bl false))))) sNil) (sSeq (sIf (dTru (dIsi ["str"] (dVar 1))) (sRet (dAnd (dIsi ["str"] (dVar 0)) (dBin (gEq false) (dVar 0) (dVar 1)))) sNil) (sRet (dAnd (dCall [false] [] fn__law_int (dCons (dVar 0) dNil)) (dBin (gEq false) (dVar 0) (dVar 1))))))))
def fn__law_exact : Nat → List D → FO
  | 0 => fun _ => .st
  | n + 1 => defF [false, false] 3 (F__law_exact (fn__law_exact n))
def F__law_table : DS := (sSeq (sSet 0 (dTup (dCons (dC (.str "again")) (dCons (dC (.str "r")) dNil)))) (sSeq (sSet 1 (dTup (dCons (dC (.str "nothing")) dNil))) (sSeq (sSet 2 (dTup (dCons (dC (.str "again")) (dCons (dTup (dCons (dC (.str "either")) (dCons (dC (.str "r")) (dCons (dC (.str "s")) dNil)))) dNil)))) (sRet (dLst (dCons (dTup (dCons (dC (.str "bracket_behind")) (dCons (dC (.int 3)) (dCons (dC (.str "alike")) (dCons (dTup (dCons (dC (.str "behind")) (dCons (dTup (dCons (dC (.str "behind")) (dCons (dC (.str "r")) (dCons (dC (.str "s")) dNil)))) (dCons (dC (.str "t")) dNil)))) (dCons (dTup (dCons (dC (.str "behind")) (dCons (dC (.str "r")) (dCons (dTup (dCons (dC (.str "behind")) (dCons (dC (.str "s")) (dCons (dC (.str "t")) dNil)))) dNil)))) dNil)))))) (dCons (dTup (dCons (dC (.str "drop_first")) (dCons (dC (.int 1)) (dCons (dC (.str "alike")) (dCons (dTup (dCons (dC (.str "behind")) (dCons (dVar 1) (dCons (dC (.str "r")) dNil)))) (dCons (dC (.str "r")) dNil)))))) (dCons (dTup (dCons (dC (.str "drop_last")) (dCons (dC (.int 1)) (dCons (dC (.str "alike")) (dCons (dTup (dCons (dC (.str "behind")) (dCons (dC (.str "r")) (dCons (dVar 1) dNil)))) (dCons (dC (.str "r")) dNil)))))) (dCons (dTup (dCons (dC (.str "drop_double")) (dCons (dC (.int 1)) (dCons (dC (.str "alike")) (dCons (dTup (dCons (dC (.str "either")) (dCons (dC (.str "r")) (dCons (dC (.str "r")) dNil)))) (dCons (dC (.str "r")) dNil)))))) (dCons (dTup (dCons (dC (.str "turn_either")) (dCons (dC (.int 2)) (dCons (dC (.str "alike")) (dCons (dTup (dCons (dC (.str "either")) (dCons (dC (.str "r")) (dCons (dC (.str "s")) dNil)))) (dCons (dTup (dCons (dC (.str "either")) (dCons (dC (.str "s")) (dCons (dC (.str "r")) dNil)))) dNil)))))) (dCons (dTup (dCons (dC (.str "bracket_either")) (dCons (dC (.int 3)) (dCons (dC (.str "alike")) (dCons (dTup (dCons (dC (.str "either")) (dCons (dTup (dCons (dC (.str "either")) (dCons (dC (.str "r")) (dCons (dC (.str "s")) dNil)))) (dCons (dC (.str "t")) dNil)))) (dCons (dTup (dCons (dC (.str "either")) (dCons (dC (.str "r")) (dCons (dTup (dCons (dC (.str "either")) (dCons (dC (.str "s")) (dCons (dC (.str "t")) dNil)))) dNil)))) dNil)))))) (dCons (dTup (dCons (dC (.str "spread_first")) (dCons (dC (.int 3)) (dCons (dC (.str "alike")) (dCons (dTup (dCons (dC (.str "behind")) (dCons (dC (.str "r")) (dCons (dTup (dCons (dC (.str "either")) (dCons (dC (.str "s")) (dCons (dC (.str "t")) dNil)))) dNil)))) (dCons (dTup (dCons (dC (.str "either")) (dCons (dTup (dCons (dC (.str "behind")) (dCons (dC (.str "r")) (dCons (dC (.str "s")) dNil)))) (dCons (dTup (dCons (dC (.str "behind")) (dCons (dC (.str "r")) (dCons (dC (.str "t")) dNil)))) dNil)))) dNil)))))) (dCons (dTup (dCons (dC (.str "again_once")) (dCons (dC (.int 1)) (dCons (dC (.str "alike")) (dCons (dTup (dCons (dC (.str "again")) (dCons (dVar 0) dNil))) (dCons (dVar 0) dNil)))))) (dCons (dTup (dCons (dC (.str "again_twice")) (dCons (dC (.int 1)) (dCons (dC (.str "alike")) (dCons (dTup (dCons (dC (.str "behind")) (dCons (dVar 0) (dCons (dVar 0) dNil)))) (dCons (dVar 0) dNil)))))) (dCons (dTup (dCons (dC (.str "again_mixed")) (dCons (dC (.int 2)) (dCons (dC (.str "alike")) (dCons (dVar 2) (dCons (dTup (dCons (dC (.str "again")) (dCons (dTup (dCons (dC (.str "behind")) (dCons (dVar 0) (dCons (dTup (dCons (dC (.str "again")) (dCons (dC (.str "s")) dNil))) dNil)))) dNil))) dNil)))))) (dCons (dTup (dCons (dC (.str "again_ended")) (dCons (dC (.int 1)) (dCons (dC (.str "alike")) (dCons (dVar 0) (dCons (dTup (dCons (dC (.str "either")) (dCons (dVar 1) (dCons (dTup (dCons (dC (.str "behind")) (dCons (dVar 0) (dCons (dC (.str "r")) dNil)))) dNil)))) dNil)))))) (dCons (dTup (dCons (dC (.str "again_turns")) (dCons (dC (.int 2)) (dCons (dC (.str "alike")) (dCons (dVar 2) (dCons (dTup (dCons (dC (.str "behind")) (dCons (dTup (dCons (dC (.str "again")) (dCons (dTup (dCons (dC (.str "behind")) (dCons (dVar 0) (dCons (dC (.str "s")) dNil)))) dNil))) (dCons (dVar 0) dNil)))) dNil)))))) (dCons (dTup (dCons (dC (.str "spread_last")) (dCons (dC (.int 3)) (dCons (dC (.str "sharper")) (dCons (dTup (dCons (dC (.str "behind")) (dCons (dTup (dCons (dC (.str "either")) (dCons (dC (.str "r")) (dCons (dC (.str "s")) dNil)))) (dCons (dC (.str "t")) dNil)))) (dCons (dTup (dCons (dC (.str "either")) (dCons (dTup (dCons (dC (.str "behind")) (dCons (dC (.str "r")) (dCons (dC (.str "t")) dNil)))) (dCons (dTup (dCons (dC (.str "behind")) (dCons (dC (.str "s")) (dCons (dC (.str "t")) dNil)))) dNil)))) dNil)))))) (dCons (dTup (dCons (dC (.str "unroll")) (dCons (dC (.int 1)) (dCons (dC (.str "sharper")) (dCons (dVar 0) (dCons (dTup (dCons (dC (.str "either")) (dCons (dVar 1) (dCons (dTup (dCons (dC (.str "behind")) (dCons (dC (.str "r")) (dCons (dVar 0) dNil)))) dNil)))) dNil)))))) (dCons (dTup (dCons (dC (.str "slide_one")) (dCons (dC (.int 1)) (dCons (dC (.str "sharper")) (dCons (dTup (dCons (dC (.str "behind")) (dCons (dVar 0) (dCons (dC (.str "r")) dNil)))) (dCons (dTup (dCons (dC (.str "behind")) (dCons (dC (.str "r")) (dCons (dVar 0) dNil)))) dNil)))))) (dCons (dTup (dCons (dC (.str "slide_two")) (dCons (dC (.int 2)) (dCons (dC (.str "sharper")) (dCons (dTup (dCons (dC (.str "behind")) (dCons (dTup (dCons (dC (.str "again")) (dCons (dTup (dCons (dC (.str "behind")) (dCons (dC (.str "r")) (dCons (dC (.str "s")) dNil)))) dNil))) (dCons (dC (.str "r")) dNil)))) (dCons (dTup (dCons (dC (.str "behind")) (dCons (dC (.str "r")) (dCons (dTup (dCons (dC (.str "again")) (dCons (dTup (dCons (dC (.str "behind")) (dCons (dC (.str "s")) (dCons (dC (.str "r")) dNil)))) dNil))) dNil)))) dNil)))))) (dCons (dTup (dCons (dC (.str "part_again")) (dCons (dC (.int 2)) (dCons (dC (.str "sharper")) (dCons (dVar 2) (dCons (dTup (dCons (dC (.str "behind")) (dCons (dVar 0) (dCons (dTup (dCons (dC (.str "again")) (dCons (dTup (dCons (dC (.str "behind")) (dCons (dC (.str "s")) (dCons (dVar 0) dNil)))) dNil))) dNil)))) dNil)))))) (dCons (dTup (dCons (dC (.str "halve_again")) (dCons (dC (.int 1)) (dCons (dC (.str "sharper")) (dCons (dVar 0) (dCons (dTup (dCons (dC (.str "behind")) (dCons (dTup (dCons (dC (.str "either")) (dCons (dVar 1) (dCons (dC (.str "r")) dNil)))) (dCons (dTup (dCons (dC (.str "again")) (dCons (dTup (dCons (dC (.str "behind")) (dCons (dC (.str "r")) (dCons (dC (.str "r")) dNil)))) dNil))) dNil)))) dNil)))))) dNil)))))))))))))))))))))))
def fn__law_table : List D → FO := defF [] 3 F__law_table
def E__law_put_0 (self : List D → FO) : DE := (dCall [false, false] [] self (dCons (dVar 2) (dCons (dVar 1) dNil)))
def F__law_put (self : List D → FO) : DS := (sSeq (sIf (dTru (dIsi ["str"] (dVar 0))) (sRet (dIxV 1 (dUn (gFind "rst") (dVar 0)))) sNil) (sRet (dCallB gTuple (dCons (dBin gAdd (dLst (dCons (dIxV 0 (dC (.int 0))) dNil)) (dComp (dIt (dSl (dVar 0) (some (dC (.int 1))) none)) (setV 2) dYes (E__law_put_0 self) [2])) dNil))))
def fn__law_put : Nat → List D → FO
  | 0 => fun _ => .st
  | n + 1 => defF [false, false] 3 (F__law_put (fn__law_put n))
def B__law_letters_0 : DS := (sApp 5 (dCall [true, false, false, false] [] (fn__law_program 8) (dRefA 0 (dCons (dVar 1) (dCons (dBin gAdd (dC (.int 1)) (dCall [true, false] [] fn__law_take (dRefA 0 (dCons (dVar 3) dNil)))) (dCons (dCall [true, false] [] fn__law_take (dRefA 0 (dCons (dBin gAdd (dVar 4) (dC (.int 1))) dNil))) dNil))))))
def F__law_letters : DS := (sSeq (sSetO 5 (dLst dNil)) (sSeq (sFor (dRg1 (dVar 2)) (setV 6) B__law_letters_0) (sSeq (sIf (dTest (dBin (gEq false) (dCall [true, false] [] fn__law_take (dRefA 0 (dCons (dC (.int 8)) dNil))) (dC (.int 0)))) (sPut 5 (dIxV 5 (dC (.int 0))) (dBin (gI (fun _ _ => true) fun i j => i - j) (dVar 2) (dC (.int 1)))) sNil) (sRet (dVar 5)))))
def fn__law_letters : List D → FO := defF [true, false, false, false, false] 7 F__law_letters
def F__law_word : DS := (sSeq (sTryCl tabE (sIf (dTest (dBin (gEq false) (dVar 0) (dC (.int 0)))) (sExpr (dCall [false] [] fn_verdict_of (dCons (dVar 1) dNil))) (sIf (dTest (dBin (gEq false) (dVar 0) (dC (.int 1)))) (sExpr (dCall [false] [] fn_letters_of (dCons (dVar 1) dNil))) (sExpr (dCall [false, false] [] fn_rewriting_pair (dCons (dVar 1) (dCons (dVar 2) dNil)))))) [("BadRewriting", some 3, (sRet (dXf 3 "what"))), ("CheckerError", none, (sRet (dC (.str "other"))))]) (sRet (dC (.str "let"))))
def fn__law_word : List D → FO := defF [false, false, false] 4 F__law_word
def E_law_0 : DE := (dIxV 5 (dC (.int 0)))
def Q_law_0 : DT := (dTest (dBin (gEq true) (dCall [false, false, false] [] fn__law_word (dCons (dVar 13) (dCons (dVar 11) (dCons (dVar 8) dNil)))) (dC (.str "name"))))
def E_law_1 : DE := (dVar 13)
def B_law_0 : DS := (sSeq (sSet 5 (dIxV 2 (dBin (gI cPos fun i j => i % j) (dCallB gInt1 (dCons (dBin gAdd (dVar 3) (dBin (gI cMul fun i j => i * j) (dVar 4) (dC (.int 7)))) dNil)) (dC (.int 18))))) (sSeq (sIf (tOrD (tNotD (dTru (dCall [false, false] [] (fn__law_exact 14) (dCons (dCall [false] [] fn_verdict_of (dCons (dIxV 5 (dC (.int 0))) dNil)) (dCons (dIxV 5 (dC (.int 2))) dNil))))) (tNotD (dTru (dCall [false, false] [] (fn__law_exact 14) (dCons (dCall [false] [] fn_letters_of (dCons (dIxV 5 (dC (.int 0))) dNil)) (dCons (dIxV 5 (dC (.int 1))) dNil)))))) (sRet (dC (.bl false))) sNil) (sSeq (sSet 6 (dCall [true, false] [] fn__law_names (dRefA 1 (dCons (dBin gAdd (dC (.int 1)) (dCall [true, false] [] fn__law_take (dRefA 1 (dCons (dC (.int 3)) dNil)))) dNil)))) (sSeq (sSet 7 (dCall [true, false, false, false, false] [] fn__law_letters (dRefA 1 (dCons (dVar 6) (dCons (dIxV 5 (dC (.int 1))) (dCons (dC (.int 4)) (dCons (dC (.int 3)) dNil))))))) (sSeq (sSet 8 (dCall [true, false] [] fn__law_list (dRefA 1 (dCons (dVar 7) dNil)))) (sSeq (sSet 9 (dTup (dCons (dCall [false, false] [] (fn__law_put 5) (dCons (dIxV 5 (dC (.int 3))) (dCons (dVar 7) dNil))) (dCons (dCall [false, false] [] (fn__law_put 5) (dCons (dIxV 5 (dC (.int 4))) (dCons (dVar 7) dNil))) dNil)))) (sSeq (sIf (tNotD (dTru (dCall [false, false] [] (fn__law_exact 14) (dCons (dCall [false, false] [] fn_rewriting_pair (dCons (dIxV 5 (dC (.int 0))) (dCons (dVar 8) dNil))) (dCons (dVar 9) dNil))))) (sRet (dC (.bl false))) sNil) (sSeq (sSet 10 (dLst (dCons (dC (.str "")) (dCons (dBin gAdd (dIxV 5 (dC (.int 0))) (dC (.str "x"))) (dCons (dBin gAdd (dC (.str "X")) (dIxV 5 (dC (.int 0)))) (dCons (dBin gAdd (dIxV 5 (dC (.int 0))) (dC (.str " "))) (dCons (dC .non) (dCons (dC (.bl true)) (dCons (dVar 4) (dCons (dTup (dCons (dIxV 5 (dC (.int 0))) dNil)) (dCons (dLst (dCons (dIxV 5 (dC (.int 0))) dNil)) dNil))))))))))) (sSeq (sSet 11 (dIxV 10 (dCall [true, false] [] fn__law_take (dRefA 1 (dCons (dC (.int 9)) dNil))))) (sSeq (sIf (dTest (dBin (gEq true) (dComp (dRg1 (dC (.int 3))) (setV 13) Q_law_0 E_law_1 [13]) (dLst dNil))) (sRet (dC (.bl false))) sNil) (sSeq (sSet 10 (dLst (dCons (dSl (dVar 7) (some (dC (.int 1))) none) (dCons (dBin gAdd (dVar 7) (dLst (dCons (dIxV 7 (dC (.int 0))) dNil))) (dCons (dC .non) (dCons (dSl (dC (.str "rst")) none (some (dIxV 5 (dC (.int 1))))) (dCons (dIxV 5 (dC (.int 1))) (dCons (dC (.dct [] [])) (dCons (dCallB gTuple (dCons (dSl (dVar 7) none (some (dUn (gU fun i => -i) (dC (.int 1))))) dNil)) dNil))))))))) (sSeq (sSet 12 (dIxV 10 (dCall [true, false] [] fn__law_take (dRefA 1 (dCons (dC (.int 7)) dNil))))) (sSeq (sIf (tOrD (dTest (dBin (gEq true) (dCall [false, false, false] [] fn__law_word (dCons (dC (.int 2)) (dCons (dIxV 5 (dC (.int 0))) (dCons (dVar 12) dNil)))) (dC (.str "many")))) (dTest (dBin (gEq true) (dCall [false, false, false] [] fn__law_word (dCons (dC (.int 2)) (dCons (dVar 11) (dCons (dVar 12) dNil)))) (dC (.str "name"))))) (sRet (dC (.bl false))) sNil) (sSeq (sIf (tOrD (dTest (dBin (gEq true) (dCall [false, false, false] [] fn__law_word (dCons (dC (.int 2)) (dCons (dIxV 5 (dC (.int 0))) (dCons (dVar 8) dNil)))) (dC (.str "let")))) (tNotD (dTru (dCall [false, false] [] (fn__law_exact 14) (dCons (dCallB gTuple (dCons (dVar 8) dNil)) (dCons (dCallB gTuple (dCons (dVar 7) dNil)) dNil)))))) (sRet (dC (.bl false))) sNil) (sIf (tNotD (dTru (dCall [false, false] [] (fn__law_exact 14) (dCons (dCall [false, false] [] fn_rewriting_pair (dCons (dIxV 5 (dC (.int 0))) (dCons (dVar 8) dNil))) (dCons (dVar 9) dNil))))) (sRet (dC (.bl false))) sNil)))))))))))))))
def F_law : DS := (sSeq (sSetO 1 (dCallO [false] [] fn__law_hand (dCons (dVar 0) dNil))) (sSeq (sSet 2 (dCall [] [] fn__law_table dNil)) (sSeq (sIf (tNotD (dTru (dCall [false, false] [] (fn__law_exact 14) (dCons (dCall [] [] fn_rewriting_names dNil) (dCons (dCallB gTuple (dCons (dComp (dIt (dVar 2)) (setV 5) dYes E_law_0 [5]) dNil)) dNil))))) (sRet (dC (.bl false))) sNil) (sSeq (sSet 3 (dCall [true, false] [] fn__law_take (dRefA 1 (dCons (dC (.int 18)) dNil)))) (sSeq (sFor (dRg1 (dC (.int 6))) (setV 4) B_law_0) (sRet (dC (.bl true))))))))
def fn_law : List D → FO := defF [false] 14 F_law
theorem o_is_sequence (x0 : D) : fn_is_sequence [x0] = toFO [false] (F_is_sequence [.val x0]) := (opn [false] [x0] 1 F_is_sequence rfl).trans (congrArg (fun e => toFO [false] (F_is_sequence e)) (rfl : mkEnv [false] [x0] 1 = [.val x0]))
theorem o__is_rewriting (x0 : D) : fn__is_rewriting [x0] = toFO [false] (F__is_rewriting [.val x0]) := (opn [false] [x0] 1 F__is_rewriting rfl).trans (congrArg (fun e => toFO [false] (F__is_rewriting e)) (rfl : mkEnv [false] [x0] 1 = [.val x0]))
theorem o__rewriting_of (x0 : D) : fn__rewriting_of [x0] = toFO [false] (F__rewriting_of [.val x0]) := (opn [false] [x0] 1 F__rewriting_of rfl).trans (congrArg (fun e => toFO [false] (F__rewriting_of e)) (rfl : mkEnv [false] [x0] 1 = [.val x0]))
theorem o_verdict_of (x0 : D) : fn_verdict_of [x0] = toFO [false] (F_verdict_of [.val x0]) := (opn [false] [x0] 1 F_verdict_of rfl).trans (congrArg (fun e => toFO [false] (F_verdict_of e)) (rfl : mkEnv [false] [x0] 1 = [.val x0]))
theorem o_letters_of (x0 : D) : fn_letters_of [x0] = toFO [false] (F_letters_of [.val x0]) := (opn [false] [x0] 1 F_letters_of rfl).trans (congrArg (fun e => toFO [false] (F_letters_of e)) (rfl : mkEnv [false] [x0] 1 = [.val x0]))
theorem o__filled (n : Nat) (x0 x1 : D) : fn__filled (n + 1) [x0, x1] = toFO [false, false] ((F__filled (fn__filled n)) [.val x0, .val x1, .un]) := (opn [false, false] [x0, x1] 3 (F__filled (fn__filled n)) rfl).trans (congrArg (fun e => toFO [false, false] ((F__filled (fn__filled n)) e)) (rfl : mkEnv [false, false] [x0, x1] 3 = [.val x0, .val x1, .un]))
theorem o_rewriting_pair (x0 x1 : D) : fn_rewriting_pair [x0, x1] = toFO [false, false] (F_rewriting_pair [.val x0, .val x1, .un, .un, .un, .un]) := (opn [false, false] [x0, x1] 6 F_rewriting_pair rfl).trans (congrArg (fun e => toFO [false, false] (F_rewriting_pair e)) (rfl : mkEnv [false, false] [x0, x1] 6 = [.val x0, .val x1, .un, .un, .un, .un]))
theorem o__law_names (x0 x1 : D) : fn__law_names [x0, x1] = toFO [true, false] (F__law_names [.rf x0, .val x1, .un, .un, .un, .un]) := (opn [true, false] [x0, x1] 6 F__law_names rfl).trans (congrArg (fun e => toFO [true, false] (F__law_names e)) (rfl : mkEnv [true, false] [x0, x1] 6 = [.rf x0, .val x1, .un, .un, .un, .un]))
theorem o__law_program (n : Nat) (x0 x1 x2 x3 : D) : fn__law_program (n + 1) [x0, x1, x2, x3] = toFO [true, false, false, false] ((F__law_program (fn__law_program n)) [.rf x0, .val x1, .val x2, .val x3, .un, .un, .un, .un]) := (opn [true, false, false, false] [x0, x1, x2, x3] 8 (F__law_program (fn__law_program n)) rfl).trans (congrArg (fun e => toFO [true, false, false, false] ((F__law_program (fn__law_program n)) e)) (rfl : mkEnv [true, false, false, false] [x0, x1, x2, x3] 8 = [.rf x0, .val x1, .val x2, .val x3, .un, .un, .un, .un]))
theorem o__law_list (x0 x1 : D) : fn__law_list [x0, x1] = toFO [true, false] (F__law_list [.rf x0, .val x1]) := (opn [true, false] [x0, x1] 2 F__law_list rfl).trans (congrArg (fun e => toFO [true, false] (F__law_list e)) (rfl : mkEnv [true, false] [x0, x1] 2 = [.rf x0, .val x1]))
theorem o__law_int (x0 : D) : fn__law_int [x0] = toFO [false] (F__law_int [.val x0]) := (opn [false] [x0] 1 F__law_int rfl).trans (congrArg (fun e => toFO [false] (F__law_int e)) (rfl : mkEnv [false] [x0] 1 = [.val x0]))
theorem o__law_exact (n : Nat) (x0 x1 : D) : fn__law_exact (n + 1) [x0, x1] = toFO [false, false] ((F__law_exact (fn__law_exact n)) [.val x0, .val x1, .un]) := (opn [false, false] [x0, x1] 3 (F__law_exact (fn__law_exact n)) rfl).trans (congrArg (fun e => toFO [false, false] ((F__law_exact (fn__law_exact n)) e)) (rfl : mkEnv [false, false] [x0, x1] 3 = [.val x0, .val x1, .un]))
theorem o__law_put (n : Nat) (x0 x1 : D) : fn__law_put (n + 1) [x0, x1] = toFO [false, false] ((F__law_put (fn__law_put n)) [.val x0, .val x1, .un]) := (opn [false, false] [x0, x1] 3 (F__law_put (fn__law_put n)) rfl).trans (congrArg (fun e => toFO [false, false] ((F__law_put (fn__law_put n)) e)) (rfl : mkEnv [false, false] [x0, x1] 3 = [.val x0, .val x1, .un]))
theorem o__law_letters (x0 x1 x2 x3 x4 : D) : fn__law_letters [x0, x1, x2, x3, x4] = toFO [true, false, false, false, false] (F__law_letters [.rf x0, .val x1, .val x2, .val x3, .val x4, .un, .un]) := (opn [true, false, false, false, false] [x0, x1, x2, x3, x4] 7 F__law_letters rfl).trans (congrArg (fun e => toFO [true, false, false, false, false] (F__law_letters e)) (rfl : mkEnv [true, false, false, false, false] [x0, x1, x2, x3, x4] 7 = [.rf x0, .val x1, .val x2, .val x3, .val x4, .un, .un]))
theorem o__law_word (x0 x1 x2 : D) : fn__law_word [x0, x1, x2] = toFO [false, false, false] (F__law_word [.val x0, .val x1, .val x2, .un]) := (opn [false, false, false] [x0, x1, x2] 4 F__law_word rfl).trans (congrArg (fun e => toFO [false, false, false] (F__law_word e)) (rfl : mkEnv [false, false, false] [x0, x1, x2] 4 = [.val x0, .val x1, .val x2, .un]))
theorem o_law (x0 : D) : fn_law [x0] = toFO [false] (F_law [.val x0, .un, .un, .un, .un, .un, .un, .un, .un, .un, .un, .un, .un, .un]) := (opn [false] [x0] 14 F_law rfl).trans (congrArg (fun e => toFO [false] (F_law e)) (rfl : mkEnv [false] [x0] 14 = [.val x0, .un, .un, .un, .un, .un, .un, .un, .un, .un, .un, .un, .un, .un]))
/-! ### the facts -/
structure Ft (P : Program) (w : World) (K : PySem.W.Frag) (mg : Str → Option Value) (cl : Cw) : Prop where
  cp : cl.P = P
  cw : cl.w = w
  n_abs : mg "abs" = none
  n_bool : mg "bool" = none
  n_dict : mg "dict" = none
  n_int : mg "int" = none
  n_isinstance : mg "isinstance" = none
  n_len : mg "len" = none
  n_list : mg "list" = none
  n_range : mg "range" = none
  n_str : mg "str" = none
  n_tuple : mg "tuple" = none
  n_zip : mg "zip" = none
  u_LETTERS : ∃ a, mg "LETTERS" = some (.ref a) ∧ KTp K a ["r", "s", "t"]
  m_REWRITINGS : GTab K w mg "REWRITINGS" kvd_REWRITINGS
  e_CheckerError : ∃ C, DL.ExcC K mg cl "CheckerError" C
  g_BadRewriting : ∃ C, cl "BadRewriting" = some C ∧ mg "BadRewriting" = some (.ref C)
  g_CheckerError : ∃ C, cl "CheckerError" = some C ∧ mg "CheckerError" = some (.ref C)
  x_BadRewriting : ∃ C f fd, cl "BadRewriting" = some C ∧ mg "BadRewriting" = some (.ref C) ∧ OexC K C ∧ PySem.W.findIn K (.ref C) "__init__" = some (some (.ref f)) ∧ PySem.W.typeIn K (.ref f) = some (.type "function") ∧ PySem.W.findIn K (.ref C) "what" = some none ∧ FunD K "__init__" "BadRewriting.__init__" (defArgs s_x_BadRewriting) (defBody s_x_BadRewriting) (defScope s_x_BadRewriting) [] [] f fd
  xf_BadRewriting_what : ∀ cn A, tabE cn "BadRewriting" = some true → cl cn = some A → XfC K A ∧ PySem.W.findIn K (.ref A) "what" = some none
  tab : ExmTab K cl tabE
  d_is_sequence : ∃ f fd, FunD K "is_sequence" "is_sequence" (defArgs s_is_sequence) (defBody s_is_sequence) (defScope s_is_sequence) [] [] f fd ∧ mg "is_sequence" = some (.ref f)
  d_rewriting_names : ∃ f fd, FunD K "rewriting_names" "rewriting_names" (defArgs s_rewriting_names) (defBody s_rewriting_names) (defScope s_rewriting_names) [] [] f fd ∧ mg "rewriting_names" = some (.ref f)
  d__is_rewriting : ∃ f fd, FunD K "_is_rewriting" "_is_rewriting" (defArgs s__is_rewriting) (defBody s__is_rewriting) (defScope s__is_rewriting) [] [] f fd ∧ mg "_is_rewriting" = some (.ref f)
  d__rewriting_of : ∃ f fd, FunD K "_rewriting_of" "_rewriting_of" (defArgs s__rewriting_of) (defBody s__rewriting_of) (defScope s__rewriting_of) [] [] f fd ∧ mg "_rewriting_of" = some (.ref f)
  d_verdict_of : ∃ f fd, FunD K "verdict_of" "verdict_of" (defArgs s_verdict_of) (defBody s_verdict_of) (defScope s_verdict_of) [] [] f fd ∧ mg "verdict_of" = some (.ref f)
  d_letters_of : ∃ f fd, FunD K "letters_of" "letters_of" (defArgs s_letters_of) (defBody s_letters_of) (defScope s_letters_of) [] [] f fd ∧ mg "letters_of" = some (.ref f)
  d__filled : ∃ f fd, FunD K "_filled" "_filled" (defArgs s__filled) (defBody s__filled) (defScope s__filled) [] [] f fd ∧ mg "_filled" = some (.ref f)
  d_rewriting_pair : ∃ f fd, FunD K "rewriting_pair" "rewriting_pair" (defArgs s_rewriting_pair) (defBody s_rewriting_pair) (defScope s_rewriting_pair) [] [] f fd ∧ mg "rewriting_pair" = some (.ref f)
  d__law_hand : ∃ f fd, FunD K "_law_hand" "_law_hand" (defArgs s__law_hand) (defBody s__law_hand) (defScope s__law_hand) [] [] f fd ∧ mg "_law_hand" = some (.ref f)
  d__law_mixed : ∃ f fd, FunD K "_law_mixed" "_law_mixed" (defArgs s__law_mixed) (defBody s__law_mixed) (defScope s__law_mixed) [] [] f fd ∧ mg "_law_mixed" = some (.ref f)
  d__law_take : ∃ f fd, FunD K "_law_take" "_law_take" (defArgs s__law_take) (defBody s__law_take) (defScope s__law_take) [] [] f fd ∧ mg "_law_take" = some (.ref f)
  d__law_names : ∃ f fd, FunD K "_law_names" "_law_names" (defArgs s__law_names) (defBody s__law_names) (defScope s__law_names) [] [] f fd ∧ mg "_law_names" = some (.ref f)
  d__law_program : ∃ f fd, FunD K "_law_program" "_law_program" (defArgs s__law_program) (defBody s__law_program) (defScope s__law_program) [] [] f fd ∧ mg "_law_program" = some (.ref f)
  d__law_list : ∃ f fd, FunD K "_law_list" "_law_list" (defArgs s__law_list) (defBody s__law_list) (defScope s__law_list) [] [] f fd ∧ mg "_law_list" = some (.ref f)
  d__law_int : ∃ f fd, FunD K "_law_int" "_law_int" (defArgs s__law_int) (defBody s__law_int) (defScope s__law_int) [] [] f fd ∧ mg "_law_int" = some (.ref f)
  d__law_exact : ∃ f fd, FunD K "_law_exact" "_law_exact" (defArgs s__law_exact) (defBody s__law_exact) (defScope s__law_exact) [] [] f fd ∧ mg "_law_exact" = some (.ref f)
  d__law_table : ∃ f fd, FunD K "_law_table" "_law_table" (defArgs s__law_table) (defBody s__law_table) (defScope s__law_table) [] [] f fd ∧ mg "_law_table" = some (.ref f)
  d__law_put : ∃ f fd, FunD K "_law_put" "_law_put" (defArgs s__law_put) (defBody s__law_put) (defScope s__law_put) [] [] f fd ∧ mg "_law_put" = some (.ref f)
  d__law_letters : ∃ f fd, FunD K "_law_letters" "_law_letters" (defArgs s__law_letters) (defBody s__law_letters) (defScope s__law_letters) [] [] f fd ∧ mg "_law_letters" = some (.ref f)
  d__law_word : ∃ f fd, FunD K "_law_word" "_law_word" (defArgs s__law_word) (defBody s__law_word) (defScope s__law_word) [] [] f fd ∧ mg "_law_word" = some (.ref f)
  d_law : ∃ f fd, FunD K "law" "law" (defArgs s_law) (defBody s_law) (defScope s_law) [] [] f fd ∧ mg "law" = some (.ref f)
section
variable {P : Program} {w : World} {K : PySem.W.Frag} {mg : Str → Option Value} {base : Heap} {cl : Cw}
theorem calX_BadRewriting (T : Ft P w K mg cl) : CalX P w K mg base cl "BadRewriting" ["what"] := by
  obtain ⟨C, f, fd, e1, e2, T0, e3, e4, n0, F⟩ := T.x_BadRewriting
  have b : Binds K fd ["self", "what"] [] := F.bindsN fun _ _ _ _ _ _ us hl => match us, hl with | [_, _], _ => rfl
  exact calX1 e1 e2 T0 e3 e4 n0 F sc_x_BadRewriting rfl b fun cdv A outer s' H E => ⟨(self_pe rfl (by first | exact .inl rfl | exact .inr rfl | decide +kernel) (by decide) (by decide)), (self_pe rfl (by first | exact .inl rfl | exact .inr rfl | decide +kernel) (by decide) (by decide)), rfl⟩
theorem cal_is_sequence_1 (T : Ft P w K mg cl) : Cal P w K mg base cl 1 "is_sequence" [false] fn_is_sequence [] := by
  obtain ⟨f, fd, F, g⟩ := T.d_is_sequence
  have b : Binds K fd ["thing"] [] := F.bindsN fun _ _ _ _ _ _ us hl => match us, hl with | [_], _ => rfl
  refine ⟨f, fd, ["thing"], [], [], ⟨def_okD (N := N_is_sequence) F sc_is_sequence rfl (fun cdv A outer s H E hr tk po => ?_), g, F.kp⟩, b, .nil, fun _ => .nil⟩
  refine (jss_one ?_)
  refine (js_ret ?_)
  refine (je_isi2 (T' := "list") (S' := "tuple") (by decide) (by decide) rfl T.n_isinstance (pe_tyn T.n_list (by decide +kernel)) (pe_tyn T.n_tuple (by decide +kernel)) ?_)
  exact (je_var (pv 0))
theorem cal_rewriting_names_0 (T : Ft P w K mg cl) : Cal P w K mg base cl 1 "rewriting_names" [] fn_rewriting_names [] := by
  obtain ⟨f, fd, F, g⟩ := T.d_rewriting_names
  have b : Binds K fd [] [] := F.bindsN fun _ _ _ _ _ _ us hl => match us, hl with | [], _ => rfl
  refine ⟨f, fd, [], [], [], ⟨def_okD (N := N_rewriting_names) F sc_rewriting_names rfl (fun cdv A outer s H E hr tk po => ?_), g, F.kp⟩, b, .nil, fun _ => .nil⟩
  refine (jss_one ?_)
  exact (js_ret (je_tupM rfl T.m_REWRITINGS (by decide +kernel) (by decide +kernel) rfl T.n_tuple))
theorem cal__is_rewriting_1 (T : Ft P w K mg cl) : Cal P w K mg base cl 1 "_is_rewriting" [false] fn__is_rewriting [] := by
  obtain ⟨f, fd, F, g⟩ := T.d__is_rewriting
  have b : Binds K fd ["thing"] [] := F.bindsN fun _ _ _ _ _ _ us hl => match us, hl with | [_], _ => rfl
  refine ⟨f, fd, ["thing"], [], [], ⟨def_okD (N := N__is_rewriting) F sc__is_rewriting rfl (fun cdv A outer s H E hr tk po => ?_), g, F.kp⟩, b, .nil, fun _ => .nil⟩
  refine (jss_one ?_)
  refine (js_ret ?_)
  refine (je_and ?_ (je_one ?_))
  · exact (je_isi (x := "") (T' := "str") (by decide) rfl T.n_isinstance (pe_tyn T.n_str (by decide +kernel)) (je_var (pv 0)))
  exact (je_inM T.m_REWRITINGS.tab (je_var (pv 0)))
theorem cal__rewriting_of_1 (T : Ft P w K mg cl) : Cal P w K mg base cl 3 "_rewriting_of" [false] fn__rewriting_of [] := by
  obtain ⟨f, fd, F, g⟩ := T.d__rewriting_of
  have b : Binds K fd ["name"] [] := F.bindsN fun _ _ _ _ _ _ us hl => match us, hl with | [_], _ => rfl
  refine ⟨f, fd, ["name"], [], [], ⟨def_okD (N := N__rewriting_of) F sc__rewriting_of rfl (fun cdv A outer s H E hr tk po => ?_), g, F.kp⟩, b, .nil, fun _ => .nil⟩
  refine (jss_cons ?_ ?_)
  · refine (js_if ?_ ?_ ?_)
    · refine (jt_not ?_)
      refine (jt_truth ?_ (fun _ => rfl))
      refine (je_callC (cal__is_rewriting_1 T) (hr.mono (by decide)) tk ?_)
      exact (ja_cons (je_var (pv 0)) ja_nil)
    · refine (jss_one ?_)
      refine (js_raiseF (calX_BadRewriting T) (hr.mono (by decide)) tk ?_)
      exact (ja_cons je_str ja_nil)
    exact jss_nil
  refine (jss_one ?_)
  refine (js_ret ?_)
  exact (je_ixM T.m_REWRITINGS.tab (je_var (pv 0)))
theorem cal_verdict_of_1 (T : Ft P w K mg cl) : Cal P w K mg base cl 4 "verdict_of" [false] fn_verdict_of [] := by
  obtain ⟨f, fd, F, g⟩ := T.d_verdict_of
  have b : Binds K fd ["name"] [] := F.bindsN fun _ _ _ _ _ _ us hl => match us, hl with | [_], _ => rfl
  refine ⟨f, fd, ["name"], [], [], ⟨def_okD (N := N_verdict_of) F sc_verdict_of rfl (fun cdv A outer s H E hr tk po => ?_), g, F.kp⟩, b, .nil, fun _ => .nil⟩
  refine (jss_one ?_)
  refine (js_ret ?_)
  refine (je_ix ?_ ?_)
  · refine (je_callC (cal__rewriting_of_1 T) (hr.mono (by decide)) tk ?_)
    exact (ja_cons (je_var (pv 0)) ja_nil)
  exact je_int
theorem cal_letters_of_1 (T : Ft P w K mg cl) : Cal P w K mg base cl 4 "letters_of" [false] fn_letters_of [] := by
  obtain ⟨f, fd, F, g⟩ := T.d_letters_of
  have b : Binds K fd ["name"] [] := F.bindsN fun _ _ _ _ _ _ us hl => match us, hl with | [_], _ => rfl
  refine ⟨f, fd, ["name"], [], [], ⟨def_okD (N := N_letters_of) F sc_letters_of rfl (fun cdv A outer s H E hr tk po => ?_), g, F.kp⟩, b, .nil, fun _ => .nil⟩
  refine (jss_one ?_)
  refine (js_ret ?_)
  refine (je_ix ?_ ?_)
  · refine (je_callC (cal__rewriting_of_1 T) (hr.mono (by decide)) tk ?_)
    exact (ja_cons (je_var (pv 0)) ja_nil)
  exact je_int
theorem cal__filled_2 (T : Ft P w K mg cl) : ∀ n, Cal P w K mg base cl (0 + n) "_filled" [false, false] (fn__filled n) []
  | 0 => by
    obtain ⟨f, fd, F, g⟩ := T.d__filled
    exact ⟨f, fd, ["shape", "put"], [], [], ⟨none_ok fun _ => rfl, g, F.kp⟩, F.bindsN fun _ _ _ _ _ _ us hl => match us, hl with | [_, _], _ => rfl, .nil, fun _ => .nil⟩
  | n + 1 => by
    have ih := cal__filled_2 T n
    obtain ⟨f, fd, F, g⟩ := T.d__filled
    have b : Binds K fd ["shape", "put"] [] := F.bindsN fun _ _ _ _ _ _ us hl => match us, hl with | [_, _], _ => rfl
    refine ⟨f, fd, ["shape", "put"], [], [], ⟨def_okD (N := N__filled) F sc__filled rfl (fun cdv A outer s H E hr tk po => ?_), g, F.kp⟩, b, .nil, fun _ => .nil⟩
    refine (jss_cons ?_ ?_)
    · refine (js_if ?_ ?_ ?_)
      · refine (jt_truth ?_ (fun _ => rfl))
        exact (je_isi (x := "") (T' := "str") (by decide) rfl T.n_isinstance (pe_tyn T.n_str (by decide +kernel)) (je_var (pv 0)))
      · refine (jss_one ?_)
        refine (js_ret ?_)
        exact (je_ixD (hu65 hr) (pv 1) (je_var (pv 0)))
      exact jss_nil
    refine (jss_one ?_)
    refine (js_ret ?_)
    refine (je_add ?_ ?_)
    · first | with_reducible refine (je_tup ?_) | refine (je_tup ?_)
      refine (ja_cons ?_ ja_nil)
      exact (je_ixV (pv 0) je_int)
    refine (je_calltuple rfl T.n_tuple ?_)
    refine (ja_cons (JF.je ?_) ja_nil)
    refine (jf_comp (own := [("part", 2)]) (ts := [2]) rfl sc__filled.nd ?_ (blkOk_by (N := N__filled) (sc := (defScope s__filled)) (by decide +kernel)) (by decide) (fun _ _ _ _ _ => ?_) (fun _ _ _ _ _ => jts_nil) (fun _ _ _ _ _ => ?_))
    · refine (ji_seq ?_)
      exact (je_slice (je_var (pv 0)) (JO.some je_int) JO.none)
    · exact (jg_name (pg_name (i := 2) sc__filled.nd rfl (by first | exact .inl rfl | exact .inr rfl)))
    refine (je_callC (ih) hr takes0 ?_)
    with_reducible refine ja_cons ?jh1 ?jt1 (hs := ?js1)
    case js1 => rfl
    case jh1 =>
      exact (je_var (pv 2))
    exact (ja_cons (je_var (pv 1)) ja_nil)
theorem cal_rewriting_pair_2 (T : Ft P w K mg cl) : Cal P w K mg base cl 6 "rewriting_pair" [false, false] fn_rewriting_pair [] := by
  obtain ⟨f, fd, F, g⟩ := T.d_rewriting_pair
  have b : Binds K fd ["name", "programs"] [] := F.bindsN fun _ _ _ _ _ _ us hl => match us, hl with | [_, _], _ => rfl
  refine ⟨f, fd, ["name", "programs"], [], [], ⟨def_okD (N := N_rewriting_pair) F sc_rewriting_pair rfl (fun cdv A outer s H E hr tk po => ?_), g, F.kp⟩, b, .nil, fun _ => .nil⟩
  refine (jss_cons ?_ ?_)
  · refine (js_unp (ts := [2, 3, 4]) ?_ ?_)
    · exact (jg_names (is := [2, 3, 4]) (pg_tup rfl (pgs_cons (pg_name (i := 2) sc_rewriting_pair.nd rfl (by first | exact .inl rfl | exact .inr rfl)) (pgs_cons (pg_name (i := 3) sc_rewriting_pair.nd rfl (by first | exact .inl rfl | exact .inr rfl)) (pgs_cons (pg_name (i := 4) sc_rewriting_pair.nd rfl (by first | exact .inl rfl | exact .inr rfl)) pgs_nil)))) (pg_lst rfl (pgs_cons (pg_name (i := 2) sc_rewriting_pair.nd rfl (by first | exact .inl rfl | exact .inr rfl)) (pgs_cons (pg_name (i := 3) sc_rewriting_pair.nd rfl (by first | exact .inl rfl | exact .inr rfl)) (pgs_cons (pg_name (i := 4) sc_rewriting_pair.nd rfl (by first | exact .inl rfl | exact .inr rfl)) pgs_nil)))))
    refine (je_slice ?_ JO.none (JO.some ?_))
    · refine (je_callC (cal__rewriting_of_1 T) (hr.mono (by decide)) tk ?_)
      exact (ja_cons (je_var (pv 0)) ja_nil)
    exact je_int
  refine (jss_cons ?_ ?_)
  · refine (js_if ?_ ?_ ?_)
    · refine (JW.jt ?_)
      refine (jw_or ?_ (jw_or1 ?_))
      · refine (jt_not ?_)
        refine (jt_truth ?_ (fun _ => rfl))
        refine (je_callC (cal_is_sequence_1 T) (hr.mono (by decide)) tk ?_)
        exact (ja_cons (je_var (pv 1)) ja_nil)
      exact (jt_cm (cr_ne (hu64 hr)) (je_lenV rfl T.n_len (pv 1)) (je_var (pv 2)))
    · refine (jss_one ?_)
      refine (js_raiseF (calX_BadRewriting T) (hr.mono (by decide)) tk ?_)
      exact (ja_cons je_str ja_nil)
    exact jss_nil
  refine (jss_cons ?_ ?_)
  · first | with_reducible refine js_set (i := 5) (hN := ?_) (hi := ?_) (hx := ?_) (he := ?_) (hs := ?_) (hf := ?_) | refine js_set (i := 5) (hN := ?_) (hi := ?_) (hx := ?_) (he := ?_) (hs := ?_) (hf := ?_)
    · exact sc_rewriting_pair.nd
    · rfl
    · first | exact .inl rfl | exact .inr rfl
    · first | with_reducible refine (JF.je ?_) | refine (JF.je ?_)
      refine (jf_dictZipB rfl T.n_dict rfl T.n_zip ?_)
      with_reducible refine ja_cons ?jh2 ?jt2 (hs := ?js2)
      case js2 => rfl
      case jh2 =>
        exact (je_gtup (xs := ["r", "s", "t"]) T.u_LETTERS)
      exact (ja_cons (je_var (pv 1)) ja_nil)
    · rfl
    · first | exact .inl rfl | exact .inr rfl
  refine (jss_one ?_)
  refine (js_ret ?_)
  first | with_reducible refine (je_tup ?_) | refine (je_tup ?_)
  with_reducible refine ja_cons ?jh3 ?jt3 (hs := ?js3)
  case js3 => rfl
  case jh3 =>
    refine (je_callC (cal__filled_2 T 5) (hr.mono (by decide)) tk ?_)
    with_reducible refine ja_cons ?jh4 ?jt4 (hs := ?js4)
    case js4 => rfl
    case jh4 =>
      exact (je_var (pv 3))
    exact (ja_cons (je_var (pv 5)) ja_nil)
  refine (ja_cons ?_ ja_nil)
  refine (je_callC (cal__filled_2 T 5) (hr.mono (by decide)) tk ?_)
  with_reducible refine ja_cons ?jh5 ?jt5 (hs := ?js5)
  case js5 => rfl
  case jh5 =>
    exact (je_var (pv 4))
  exact (ja_cons (je_var (pv 5)) ja_nil)
theorem cal__law_hand_1 (T : Ft P w K mg cl) : Cal P w K mg base cl 1 "_law_hand" [false] fn__law_hand [] := by
  obtain ⟨f, fd, F, g⟩ := T.d__law_hand
  have b : Binds K fd ["_law_script"] [] := F.bindsN fun _ _ _ _ _ _ us hl => match us, hl with | [_], _ => rfl
  refine ⟨f, fd, ["_law_script"], [], [], ⟨def_okD (N := N__law_hand) F sc__law_hand rfl (fun cdv A outer s H E hr tk po => ?_), g, F.kp⟩, b, .nil, fun _ => .nil⟩
  refine (jss_cons ?_ ?_)
  · first | with_reducible refine js_set (i := 1) (hN := ?_) (hi := ?_) (hx := ?_) (he := ?_) (hs := ?_) (hf := ?_) | refine js_set (i := 1) (hN := ?_) (hi := ?_) (hx := ?_) (he := ?_) (hs := ?_) (hf := ?_)
    · exact sc__law_hand.nd
    · rfl
    · first | exact .inl rfl | exact .inr rfl
    · exact (je_add (je_lenV rfl T.n_len (pv 0)) je_int)
    · rfl
    · first | exact .inl rfl | exact .inr rfl
  refine (jss_cons ?_ ?_)
  · first | with_reducible refine js_setO (i := 2) (hN := ?_) (hi := ?_) (hx := ?_) (he := ?_) (hs := ?_) (hf := ?_) | refine js_setO (i := 2) (hN := ?_) (hi := ?_) (hx := ?_) (he := ?_) (hs := ?_) (hf := ?_)
    · exact sc__law_hand.nd
    · rfl
    · first | exact .inl rfl | exact .inr rfl
    · exact (jf_lst ja_nil)
    · rfl
    · first | exact .inl rfl | exact .inr rfl
  refine (jss_cons ?_ ?_)
  · refine (js_for (ts := [3]) po rfl ?_ ?_ ?_)
    · exact (ji_seq (je_var (pv 0)))
    · exact (jg_name (pg_name (i := 3) sc__law_hand.nd rfl (by first | exact .inl rfl | exact .inr rfl)))
    refine (jss_cons ?_ ?_)
    · first | with_reducible refine js_set (i := 1) (hN := ?_) (hi := ?_) (hx := ?_) (he := ?_) (hs := ?_) (hf := ?_) | refine js_set (i := 1) (hN := ?_) (hi := ?_) (hx := ?_) (he := ?_) (hs := ?_) (hf := ?_)
      · exact sc__law_hand.nd
      · rfl
      · first | exact .inl rfl | exact .inr rfl
      · refine (je_mod ?_ ?_)
        · refine (je_callint rfl T.n_int ?_)
          refine (ja_cons ?_ ja_nil)
          refine (je_add ?_ ?_)
          · exact (je_mul (je_var (pv 1)) je_int)
          refine (je_callint rfl T.n_int ?_)
          exact (ja_cons (je_var (pv 3)) ja_nil)
        exact je_int
      · rfl
      · first | exact .inl rfl | exact .inr rfl
    refine (jss_one ?_)
    refine (js_app (pv 2) ?_)
    refine (je_abs rfl T.n_abs ?_)
    refine (ja_cons ?_ ja_nil)
    refine (je_callint rfl T.n_int ?_)
    exact (ja_cons (je_var (pv 3)) ja_nil)
  refine (jss_one ?_)
  refine (js_retO ?_)
  first | with_reducible refine (jf_lst ?_) | refine (jf_lst ?_)
  with_reducible refine ja_cons ?jh6 ?jt6 (hs := ?js6)
  case js6 => rfl
  case jh6 =>
    exact (je_var (pv 2))
  with_reducible refine ja_cons ?jh7 ?jt7 (hs := ?js7)
  case js7 => rfl
  case jh7 =>
    exact je_int
  with_reducible refine ja_cons ?jh8 ?jt8 (hs := ?js8)
  case js8 => rfl
  case jh8 =>
    exact je_int
  exact (ja_cons (je_var (pv 1)) ja_nil)
theorem cal__law_mixed_2 (T : Ft P w K mg cl) : Cal P w K mg base cl 1 "_law_mixed" [false, false] fn__law_mixed [] := by
  obtain ⟨f, fd, F, g⟩ := T.d__law_mixed
  have b : Binds K fd ["_law_number", "_law_turn"] [] := F.bindsN fun _ _ _ _ _ _ us hl => match us, hl with | [_, _], _ => rfl
  refine ⟨f, fd, ["_law_number", "_law_turn"], [], [], ⟨def_okD (N := N__law_mixed) F sc__law_mixed rfl (fun cdv A outer s H E hr tk po => ?_), g, F.kp⟩, b, .nil, fun _ => .nil⟩
  refine (jss_cons ?_ ?_)
  · first | with_reducible refine js_set (i := 2) (hN := ?_) (hi := ?_) (hx := ?_) (he := ?_) (hs := ?_) (hf := ?_) | refine js_set (i := 2) (hN := ?_) (hi := ?_) (hx := ?_) (he := ?_) (hs := ?_) (hf := ?_)
    · exact sc__law_mixed.nd
    · rfl
    · first | exact .inl rfl | exact .inr rfl
    · refine (je_mod ?_ ?_)
      · refine (je_callint rfl T.n_int ?_)
        refine (ja_cons ?_ ja_nil)
        refine (je_add ?_ ?_)
        · refine (je_add ?_ ?_)
          · exact (je_mul (je_var (pv 0)) je_int)
          exact (je_mul (je_var (pv 1)) je_int)
        exact je_int
      exact je_int
    · rfl
    · first | exact .inl rfl | exact .inr rfl
  refine (jss_cons ?_ ?_)
  · first | with_reducible refine js_set (i := 3) (hN := ?_) (hi := ?_) (hx := ?_) (he := ?_) (hs := ?_) (hf := ?_) | refine js_set (i := 3) (hN := ?_) (hi := ?_) (hx := ?_) (he := ?_) (hs := ?_) (hf := ?_)
    · exact sc__law_mixed.nd
    · rfl
    · first | exact .inl rfl | exact .inr rfl
    · refine (je_mod ?_ ?_)
      · refine (je_callint rfl T.n_int ?_)
        refine (ja_cons ?_ ja_nil)
        refine (je_add ?_ ?_)
        · refine (je_add ?_ ?_)
          · exact (je_mul (je_var (pv 2)) (je_var (pv 2)))
          exact (je_mul (je_var (pv 1)) je_int)
        exact (je_div (je_var (pv 2)) je_int)
      exact je_int
    · rfl
    · first | exact .inl rfl | exact .inr rfl
  refine (jss_one ?_)
  refine (js_ret ?_)
  refine (je_div ?_ ?_)
  · refine (je_callint rfl T.n_int ?_)
    refine (ja_cons ?_ ja_nil)
    refine (je_mod ?_ ?_)
    · refine (je_callint rfl T.n_int ?_)
      refine (ja_cons ?_ ja_nil)
      refine (je_add ?_ ?_)
      · exact (je_mul (je_var (pv 3)) je_int)
      exact (je_div (je_var (pv 2)) je_int)
    exact je_int
  exact je_int
theorem cal__law_take_2 (T : Ft P w K mg cl) : Cal P w K mg base cl 2 "_law_take" [true, false] fn__law_take [] := by
  obtain ⟨f, fd, F, g⟩ := T.d__law_take
  have b : Binds K fd ["_law_hand_here", "_law_many"] [] := F.bindsN fun _ _ _ _ _ _ us hl => match us, hl with | [_, _], _ => rfl
  refine ⟨f, fd, ["_law_hand_here", "_law_many"], [], [], ⟨def_okD (N := N__law_take) F sc__law_take rfl (fun cdv A outer s H E hr tk po => ?_), g, F.kp⟩, b, .nil, fun _ => .nil⟩
  refine (jss_cons ?_ ?_)
  · refine (js_if ?_ ?_ ?_)
    · refine (JW.jt ?_)
      refine (jw_and ?_ (jw_and1 ?_))
      · refine (jt_cm (cr_eq (hu64 hr)) ?_ ?_)
        · exact (je_ixV (pv 0) je_int)
        exact je_int
      refine (jt_cm cr_lt ?_ ?_)
      · exact (je_ixV (pv 0) je_int)
      refine (je_len rfl T.n_len ?_)
      refine (ja_cons ?_ ja_nil)
      exact (je_ixV (pv 0) je_int)
    · refine (jss_cons ?_ ?_)
      · first | with_reducible refine js_set (i := 2) (hN := ?_) (hi := ?_) (hx := ?_) (he := ?_) (hs := ?_) (hf := ?_) | refine js_set (i := 2) (hN := ?_) (hi := ?_) (hx := ?_) (he := ?_) (hs := ?_) (hf := ?_)
        · exact sc__law_take.nd
        · rfl
        · first | exact .inl rfl | exact .inr rfl
        · refine (je_ix ?_ ?_)
          · exact (je_ixV (pv 0) je_int)
          exact (je_ixV (pv 0) je_int)
        · rfl
        · first | exact .inl rfl | exact .inr rfl
      refine (jss_cons ?_ ?_)
      · refine (js_put (pv 0) ?_ ?_)
        · exact je_int
        refine (je_add ?_ ?_)
        · exact (je_ixV (pv 0) je_int)
        exact je_int
      refine (jss_cons ?_ ?_)
      · refine (js_if ?_ ?_ ?_)
        · refine (jt_cm cr_lt ?_ ?_)
          · exact (je_var (pv 2))
          exact (je_pow je_int je_int)
        · refine (jss_one ?_)
          refine (js_ret ?_)
          refine (je_mod ?_ ?_)
          · refine (je_callint rfl T.n_int ?_)
            refine (ja_cons ?_ ja_nil)
            refine (je_callC (cal__law_mixed_2 T) (hr.mono (by decide)) tk ?_)
            with_reducible refine ja_cons ?jh9 ?jt9 (hs := ?js9)
            case js9 => rfl
            case jh9 =>
              refine (je_mod ?_ ?_)
              · refine (je_callint rfl T.n_int ?_)
                exact (ja_cons (je_var (pv 2)) ja_nil)
              exact je_int
            refine (ja_cons ?_ ja_nil)
            exact (je_ixV (pv 0) je_int)
          exact (je_var (pv 1))
        exact jss_nil
      refine (jss_one ?_)
      exact (js_put (pv 0) je_int (je_var (pv 2)))
    exact jss_nil
  refine (jss_cons ?_ ?_)
  · refine (js_if ?_ ?_ ?_)
    · refine (jt_cm cr_gt ?_ ?_)
      · exact (je_ixV (pv 0) je_int)
      exact je_int
    · refine (jss_cons ?_ ?_)
      · first | with_reducible refine js_set (i := 3) (hN := ?_) (hi := ?_) (hx := ?_) (he := ?_) (hs := ?_) (hf := ?_) | refine js_set (i := 3) (hN := ?_) (hi := ?_) (hx := ?_) (he := ?_) (hs := ?_) (hf := ?_)
        · exact sc__law_take.nd
        · rfl
        · first | exact .inl rfl | exact .inr rfl
        · exact (je_ixV (pv 0) je_int)
        · rfl
        · first | exact .inl rfl | exact .inr rfl
      refine (jss_cons ?_ ?_)
      · refine (js_put (pv 0) ?_ ?_)
        · exact je_int
        refine (je_div ?_ ?_)
        · refine (je_callint rfl T.n_int ?_)
          exact (ja_cons (je_var (pv 3)) ja_nil)
        exact (je_var (pv 1))
      refine (jss_one ?_)
      refine (js_ret ?_)
      refine (je_mod ?_ ?_)
      · refine (je_callint rfl T.n_int ?_)
        exact (ja_cons (je_var (pv 3)) ja_nil)
      exact (je_var (pv 1))
    exact jss_nil
  refine (jss_cons ?_ ?_)
  · refine (js_put (pv 0) ?_ ?_)
    · exact je_int
    refine (je_mod ?_ ?_)
    · refine (je_callint rfl T.n_int ?_)
      refine (ja_cons ?_ ja_nil)
      refine (je_add ?_ ?_)
      · exact (je_ixV (pv 0) je_int)
      exact je_int
    exact je_int
  refine (jss_one ?_)
  refine (js_ret ?_)
  refine (je_mod ?_ ?_)
  · refine (je_callint rfl T.n_int ?_)
    refine (ja_cons ?_ ja_nil)
    refine (je_callC (cal__law_mixed_2 T) (hr.mono (by decide)) tk ?_)
    with_reducible refine ja_cons ?jh10 ?jt10 (hs := ?js10)
    case js10 => rfl
    case jh10 =>
      exact (je_ixV (pv 0) je_int)
    refine (ja_cons ?_ ja_nil)
    exact (je_ixV (pv 0) je_int)
  exact (je_var (pv 1))
theorem cal__law_names_2 (T : Ft P w K mg cl) : Cal P w K mg base cl 3 "_law_names" [true, false] fn__law_names [] := by
  obtain ⟨f, fd, F, g⟩ := T.d__law_names
  have b : Binds K fd ["_law_hand_here", "_law_many"] [] := F.bindsN fun _ _ _ _ _ _ us hl => match us, hl with | [_, _], _ => rfl
  refine ⟨f, fd, ["_law_hand_here", "_law_many"], [], [], ⟨def_okD (N := N__law_names) F sc__law_names rfl (fun cdv A outer s H E hr tk po => ?_), g, F.kp⟩, b, .nil, fun _ => .nil⟩
  refine (jss_cons ?_ ?_)
  · first | with_reducible refine js_set (i := 2) (hN := ?_) (hi := ?_) (hx := ?_) (he := ?_) (hs := ?_) (hf := ?_) | refine js_set (i := 2) (hN := ?_) (hi := ?_) (hx := ?_) (he := ?_) (hs := ?_) (hf := ?_)
    · exact sc__law_names.nd
    · rfl
    · first | exact .inl rfl | exact .inr rfl
    · first | with_reducible refine (JF.je ?_) | refine (JF.je ?_)
      refine (jf_lstC (ds := [((.str "f"), (.str "f")), ((.str "g"), (.str "g")), ((.str "h"), (.str "h")), ((.str "ab"), (.str "ab")), ((.str "zz"), (.str "zz")), ((.str "go"), (.str "go")), ((.str "longname"), (.str "longname")), ((.str "n"), (.str "n")), ((.str "nothings"), (.str "nothings")), ((.str "a"), (.str "a"))]) ?_)
      exact rfl
    · rfl
    · first | exact .inl rfl | exact .inr rfl
  refine (jss_cons ?_ ?_)
  · refine (js_if ?_ ?_ ?_)
    · refine (jt_truth ?_ (fun _ => rfl))
      refine (je_callC (cal__law_take_2 T) (hr.mono (by decide)) tk ?_)
      exact (ja_refA (pv 0) (ja_cons je_int ja_nil))
    · refine (jss_one ?_)
      first | with_reducible refine js_set (i := 2) (hN := ?_) (hi := ?_) (hx := ?_) (he := ?_) (hs := ?_) (hf := ?_) | refine js_set (i := 2) (hN := ?_) (hi := ?_) (hx := ?_) (he := ?_) (hs := ?_) (hf := ?_)
      · exact sc__law_names.nd
      · rfl
      · first | exact .inl rfl | exact .inr rfl
      · first | with_reducible refine (JF.je ?_) | refine (JF.je ?_)
        refine (jf_lstC (ds := [((.str "r"), (.str "r")), ((.str "s"), (.str "s")), ((.str "t"), (.str "t")), ((.str "again"), (.str "again")), ((.str "step"), (.str "step")), ((.str "either"), (.str "either")), ((.str "behind"), (.str "behind")), ((.str "back"), (.str "back")), ((.str "meet"), (.str "meet")), ((.str "f"), (.str "f"))]) ?_)
        exact rfl
      · rfl
      · first | exact .inl rfl | exact .inr rfl
    exact jss_nil
  refine (jss_cons ?_ ?_)
  · first | with_reducible refine js_setO (i := 3) (hN := ?_) (hi := ?_) (hx := ?_) (he := ?_) (hs := ?_) (hf := ?_) | refine js_setO (i := 3) (hN := ?_) (hi := ?_) (hx := ?_) (he := ?_) (hs := ?_) (hf := ?_)
    · exact sc__law_names.nd
    · rfl
    · first | exact .inl rfl | exact .inr rfl
    · exact (jf_lst ja_nil)
    · rfl
    · first | exact .inl rfl | exact .inr rfl
  refine (jss_cons ?_ ?_)
  · refine (js_for (ts := [4]) po rfl ?_ ?_ ?_)
    · exact (ji_range1 rfl T.n_range (je_var (pv 1)))
    · exact (jg_name (pg_name (i := 4) sc__law_names.nd rfl (by first | exact .inl rfl | exact .inr rfl)))
    refine (jss_cons ?_ ?_)
    · first | with_reducible refine js_set (i := 5) (hN := ?_) (hi := ?_) (hx := ?_) (he := ?_) (hs := ?_) (hf := ?_) | refine js_set (i := 5) (hN := ?_) (hi := ?_) (hx := ?_) (he := ?_) (hs := ?_) (hf := ?_)
      · exact sc__law_names.nd
      · rfl
      · first | exact .inl rfl | exact .inr rfl
      · refine (je_callC (cal__law_take_2 T) (hr.mono (by decide)) tk ?_)
        exact (ja_refA (pv 0) (ja_cons (je_lenV rfl T.n_len (pv 2)) ja_nil))
      · rfl
      · first | exact .inl rfl | exact .inr rfl
    refine (jss_cons ?_ ?_)
    · refine (js_app (pv 3) ?_)
      exact (je_ixV (pv 2) (je_var (pv 5)))
    refine (jss_one ?_)
    first | with_reducible refine js_set (i := 2) (hN := ?_) (hi := ?_) (hx := ?_) (he := ?_) (hs := ?_) (hf := ?_) | refine js_set (i := 2) (hN := ?_) (hi := ?_) (hx := ?_) (he := ?_) (hs := ?_) (hf := ?_)
    · exact sc__law_names.nd
    · rfl
    · first | exact .inl rfl | exact .inr rfl
    · refine (je_add ?_ ?_)
      · exact (je_slice (je_var (pv 2)) JO.none (JO.some (je_var (pv 5))))
      refine (je_slice ?_ (JO.some ?_) JO.none)
      · exact (je_var (pv 2))
      exact (je_add (je_var (pv 5)) je_int)
    · rfl
    · first | exact .inl rfl | exact .inr rfl
  refine (jss_one ?_)
  exact (js_ret (je_var (pv 3)))
theorem cal__law_program_4 (T : Ft P w K mg cl) : ∀ n, Cal P w K mg base cl (2 + n) "_law_program" [true, false, false, false] (fn__law_program n) []
  | 0 => by
    obtain ⟨f, fd, F, g⟩ := T.d__law_program
    exact ⟨f, fd, ["_law_hand_here", "_law_called", "_law_leaves", "_law_deep"], [], [], ⟨none_ok fun _ => rfl, g, F.kp⟩, F.bindsN fun _ _ _ _ _ _ us hl => match us, hl with | [_, _, _, _], _ => rfl, .nil, fun _ => .nil⟩
  | n + 1 => by
    have ih := cal__law_program_4 T n
    obtain ⟨f, fd, F, g⟩ := T.d__law_program
    have b : Binds K fd ["_law_hand_here", "_law_called", "_law_leaves", "_law_deep"] [] := F.bindsN fun _ _ _ _ _ _ us hl => match us, hl with | [_, _, _, _], _ => rfl
    refine ⟨f, fd, ["_law_hand_here", "_law_called", "_law_leaves", "_law_deep"], [], [], ⟨def_okD (N := N__law_program) F sc__law_program rfl (fun cdv A outer s H E hr tk po => ?_), g, F.kp⟩, b, .nil, fun _ => .nil⟩
    refine (jss_cons ?_ ?_)
    · first | with_reducible refine js_set (i := 4) (hN := ?_) (hi := ?_) (hx := ?_) (he := ?_) (hs := ?_) (hf := ?_) | refine js_set (i := 4) (hN := ?_) (hi := ?_) (hx := ?_) (he := ?_) (hs := ?_) (hf := ?_)
      · exact sc__law_program.nd
      · rfl
      · first | exact .inl rfl | exact .inr rfl
      · refine (je_callC (cal__law_take_2 T) (hr.mono (Nat.le_trans (m := 2) (by decide) (Nat.le_add_right _ _))) tk ?_)
        exact (ja_refA (pv 0) (ja_cons je_int ja_nil))
      · rfl
      · first | exact .inl rfl | exact .inr rfl
    refine (jss_cons ?_ ?_)
    · refine (js_if ?_ ?_ ?_)
      · refine (JW.jt ?_)
        refine (jw_and ?_ (jw_and1 ?_))
        · exact (jt_cm cr_gt (je_var (pv 3)) je_int)
        exact (jt_cm cr_lt (je_var (pv 4)) je_int)
      · refine (jss_one ?_)
        refine (js_ret ?_)
        first | with_reducible refine (je_tup ?_) | refine (je_tup ?_)
        with_reducible refine ja_cons ?jh11 ?jt11 (hs := ?js11)
        case js11 => rfl
        case jh11 =>
          exact je_str
        refine (ja_cons ?_ ja_nil)
        refine (je_callC (ih) hr tk ?_)
        refine (ja_refA (pv 0) (ja_cons ?_ ?_))
        · exact (je_var (pv 1))
        with_reducible refine ja_cons ?jh12 ?jt12 (hs := ?js12)
        case js12 => rfl
        case jh12 =>
          exact (je_var (pv 2))
        refine (ja_cons ?_ ja_nil)
        exact (je_sub (je_var (pv 3)) je_int)
      exact jss_nil
    refine (jss_cons ?_ ?_)
    · refine (js_if ?_ ?_ ?_)
      · exact (jt_cm cr_lt (je_var (pv 2)) je_int)
      · refine (jss_cons ?_ ?_)
        · refine (js_if ?_ ?_ ?_)
          · refine (JW.jt ?_)
            refine (jw_and ?_ (jw_and1 ?_))
            · exact (jt_cm (cr_eq (hu64 hr)) (je_var (pv 4)) je_int)
            refine (jt_cm (cr_eq (hu64 hr)) ?_ ?_)
            · refine (je_callC (cal__law_take_2 T) (hr.mono (Nat.le_trans (m := 2) (by decide) (Nat.le_add_right _ _))) tk ?_)
              exact (ja_refA (pv 0) (ja_cons je_int ja_nil))
            exact je_int
          · refine (jss_one ?_)
            refine (js_ret ?_)
            first | with_reducible refine (je_tup ?_) | refine (je_tup ?_)
            exact (ja_cons je_str ja_nil)
          exact jss_nil
        refine (jss_one ?_)
        refine (js_ret ?_)
        first | with_reducible refine (je_tup ?_) | refine (je_tup ?_)
        with_reducible refine ja_cons ?jh13 ?jt13 (hs := ?js13)
        case js13 => rfl
        case jh13 =>
          exact je_str
        refine (ja_cons ?_ ja_nil)
        refine (je_ixV (pv 1) ?_)
        refine (je_callC (cal__law_take_2 T) (hr.mono (Nat.le_trans (m := 2) (by decide) (Nat.le_add_right _ _))) tk ?_)
        exact (ja_refA (pv 0) (ja_cons (je_lenV rfl T.n_len (pv 1)) ja_nil))
      exact jss_nil
    refine (jss_cons ?_ ?_)
    · first | with_reducible refine js_set (i := 5) (hN := ?_) (hi := ?_) (hx := ?_) (he := ?_) (hs := ?_) (hf := ?_) | refine js_set (i := 5) (hN := ?_) (hi := ?_) (hx := ?_) (he := ?_) (hs := ?_) (hf := ?_)
      · exact sc__law_program.nd
      · rfl
      · first | exact .inl rfl | exact .inr rfl
      · refine (je_add ?_ ?_)
        · exact je_int
        refine (je_callC (cal__law_take_2 T) (hr.mono (Nat.le_trans (m := 2) (by decide) (Nat.le_add_right _ _))) tk ?_)
        refine (ja_refA (pv 0) (ja_cons ?_ ja_nil))
        exact (je_sub (je_var (pv 2)) je_int)
      · rfl
      · first | exact .inl rfl | exact .inr rfl
    refine (jss_cons ?_ ?_)
    · first | with_reducible refine js_set (i := 6) (hN := ?_) (hi := ?_) (hx := ?_) (he := ?_) (hs := ?_) (hf := ?_) | refine js_set (i := 6) (hN := ?_) (hi := ?_) (hx := ?_) (he := ?_) (hs := ?_) (hf := ?_)
      · exact sc__law_program.nd
      · rfl
      · first | exact .inl rfl | exact .inr rfl
      · refine (je_if ?_ ?_ ?_)
        · exact (jt_cm cr_lt (je_var (pv 4)) je_int)
        · exact je_str
        exact je_str
      · rfl
      · first | exact .inl rfl | exact .inr rfl
    refine (jss_cons ?_ ?_)
    · first | with_reducible refine js_set (i := 7) (hN := ?_) (hi := ?_) (hx := ?_) (he := ?_) (hs := ?_) (hf := ?_) | refine js_set (i := 7) (hN := ?_) (hi := ?_) (hx := ?_) (he := ?_) (hs := ?_) (hf := ?_)
      · exact sc__law_program.nd
      · rfl
      · first | exact .inl rfl | exact .inr rfl
      · refine (je_callC (ih) hr tk ?_)
        refine (ja_refA (pv 0) (ja_cons ?_ ?_))
        · exact (je_var (pv 1))
        with_reducible refine ja_cons ?jh14 ?jt14 (hs := ?js14)
        case js14 => rfl
        case jh14 =>
          exact (je_var (pv 5))
        exact (ja_cons (je_var (pv 3)) ja_nil)
      · rfl
      · first | exact .inl rfl | exact .inr rfl
    refine (jss_one ?_)
    refine (js_ret ?_)
    first | with_reducible refine (je_tup ?_) | refine (je_tup ?_)
    with_reducible refine ja_cons ?jh15 ?jt15 (hs := ?js15)
    case js15 => rfl
    case jh15 =>
      exact (je_var (pv 6))
    with_reducible refine ja_cons ?jh16 ?jt16 (hs := ?js16)
    case js16 => rfl
    case jh16 =>
      exact (je_var (pv 7))
    refine (ja_cons ?_ ja_nil)
    refine (je_callC (ih) hr tk ?_)
    refine (ja_refA (pv 0) (ja_cons ?_ ?_))
    · exact (je_var (pv 1))
    with_reducible refine ja_cons ?jh17 ?jt17 (hs := ?js17)
    case js17 => rfl
    case jh17 =>
      exact (je_sub (je_var (pv 2)) (je_var (pv 5)))
    exact (ja_cons (je_var (pv 3)) ja_nil)
theorem cal__law_list_2 (T : Ft P w K mg cl) : Cal P w K mg base cl 3 "_law_list" [true, false] fn__law_list [] := by
  obtain ⟨f, fd, F, g⟩ := T.d__law_list
  have b : Binds K fd ["_law_hand_here", "_law_items"] [] := F.bindsN fun _ _ _ _ _ _ us hl => match us, hl with | [_, _], _ => rfl
  refine ⟨f, fd, ["_law_hand_here", "_law_items"], [], [], ⟨def_okD (N := N__law_list) F sc__law_list rfl (fun cdv A outer s H E hr tk po => ?_), g, F.kp⟩, b, .nil, fun _ => .nil⟩
  refine (jss_one ?_)
  refine (js_ret ?_)
  refine (je_if ?_ (JF.je ?_) ?_)
  · refine (jt_truth ?_ (fun _ => rfl))
    refine (je_callC (cal__law_take_2 T) (hr.mono (by decide)) tk ?_)
    exact (ja_refA (pv 0) (ja_cons je_int ja_nil))
  · refine (jf_calllist rfl T.n_list ?_)
    exact (ja_cons (je_var (pv 1)) ja_nil)
  refine (je_calltuple rfl T.n_tuple ?_)
  exact (ja_cons (je_var (pv 1)) ja_nil)
theorem cal__law_int_1 (T : Ft P w K mg cl) : Cal P w K mg base cl 1 "_law_int" [false] fn__law_int [] := by
  obtain ⟨f, fd, F, g⟩ := T.d__law_int
  have b : Binds K fd ["_law_thing"] [] := F.bindsN fun _ _ _ _ _ _ us hl => match us, hl with | [_], _ => rfl
  refine ⟨f, fd, ["_law_thing"], [], [], ⟨def_okD (N := N__law_int) F sc__law_int rfl (fun cdv A outer s H E hr tk po => ?_), g, F.kp⟩, b, .nil, fun _ => .nil⟩
  refine (jss_one ?_)
  refine (js_ret ?_)
  refine (je_and ?_ (je_one ?_))
  · exact (je_isi (x := "") (T' := "int") (by decide) rfl T.n_isinstance (pe_tyn T.n_int (by decide +kernel)) (je_var (pv 0)))
  refine (je_not ?_)
  exact (je_isi (x := "") (T' := "bool") (by decide) rfl T.n_isinstance (pe_tyn T.n_bool (by decide +kernel)) (je_var (pv 0)))
theorem cal__law_exact_2 (T : Ft P w K mg cl) : ∀ n, Cal P w K mg base cl (1 + n) "_law_exact" [false, false] (fn__law_exact n) []
  | 0 => by
    obtain ⟨f, fd, F, g⟩ := T.d__law_exact
    exact ⟨f, fd, ["_law_told", "_law_due"], [], [], ⟨none_ok fun _ => rfl, g, F.kp⟩, F.bindsN fun _ _ _ _ _ _ us hl => match us, hl with | [_, _], _ => rfl, .nil, fun _ => .nil⟩
  | n + 1 => by
    have ih := cal__law_exact_2 T n
    obtain ⟨f, fd, F, g⟩ := T.d__law_exact
    have b : Binds K fd ["_law_told", "_law_due"] [] := F.bindsN fun _ _ _ _ _ _ us hl => match us, hl with | [_, _], _ => rfl
    refine ⟨f, fd, ["_law_told", "_law_due"], [], [], ⟨def_okD (N := N__law_exact) F sc__law_exact rfl (fun cdv A outer s H E hr tk po => ?_), g, F.kp⟩, b, .nil, fun _ => .nil⟩
    refine (jss_cons ?_ ?_)
    · refine (js_if ?_ ?_ ?_)
      · refine (jt_truth ?_ (fun _ => rfl))
        exact (je_isi (x := "") (T' := "tuple") (by decide) rfl T.n_isinstance (pe_tyn T.n_tuple (by decide +kernel)) (je_var (pv 1)))
      · refine (jss_cons ?_ ?_)
        · refine (js_if ?_ ?_ ?_)
          · refine (JW.jt ?_)
            refine (jw_or ?_ (jw_or1 ?_))
            · refine (jt_not ?_)
              refine (jt_truth ?_ (fun _ => rfl))
              exact (je_isi (x := "") (T' := "tuple") (by decide) rfl T.n_isinstance (pe_tyn T.n_tuple (by decide +kernel)) (je_var (pv 0)))
            exact (jt_cm (cr_ne (hu64 hr)) (je_lenV rfl T.n_len (pv 0)) (je_lenV rfl T.n_len (pv 1)))
          · refine (jss_one ?_)
            exact (js_ret je_bl)
          exact jss_nil
        refine (jss_one ?_)
        refine (js_ret ?_)
        refine (je_cm (cr_eq (hu64 hr)) (JF.je ?_) (JF.je ?_))
        · refine (jf_comp (own := [("_law_k", 2)]) (ts := [2]) rfl sc__law_exact.nd ?_ (blkOk_by (N := N__law_exact) (sc := (defScope s__law_exact)) (by decide +kernel)) (by decide) (fun _ _ _ _ _ => ?_) (fun _ _ _ _ _ => (jts_one ?_)) (fun _ _ _ _ _ => ?_))
          · exact (ji_range1 rfl T.n_range (je_lenV rfl T.n_len (pv 1)))
          · exact (jg_name (pg_name (i := 2) sc__law_exact.nd rfl (by first | exact .inl rfl | exact .inr rfl)))
          · refine (jt_not ?_)
            refine (jt_truth ?_ (fun _ => rfl))
            refine (je_callC (ih) hr takes0 ?_)
            with_reducible refine ja_cons ?jh18 ?jt18 (hs := ?js18)
            case js18 => rfl
            case jh18 =>
              exact (je_ixV (pv 0) (je_var (pv 2)))
            refine (ja_cons ?_ ja_nil)
            exact (je_ixV (pv 1) (je_var (pv 2)))
          exact (je_var (pv 2))
        exact (jf_lst ja_nil)
      exact jss_nil
    refine (jss_cons ?_ ?_)
    · refine (js_if ?_ ?_ ?_)
      · exact (jt_cm cr_is (je_var (pv 1)) je_non)
      · refine (jss_one ?_)
        refine (js_ret ?_)
        exact (je_cm cr_is (je_var (pv 0)) je_non)
      exact jss_nil
    refine (jss_cons ?_ ?_)
    · refine (js_if ?_ ?_ ?_)
      · refine (jt_truth ?_ (fun _ => rfl))
        exact (je_isi (x := "") (T' := "bool") (by decide) rfl T.n_isinstance (pe_tyn T.n_bool (by decide +kernel)) (je_var (pv 1)))
      · refine (jss_one ?_)
        refine (js_ret ?_)
        refine (je_if ?_ ?_ ?_)
        · exact (jt_truV (pv 1) (fun _ => rfl))
        · exact (je_cm cr_is (je_var (pv 0)) je_bl)
        exact (je_cm cr_is (je_var (pv 0)) je_bl)
      exact jss_nil
    refine (jss_cons ?_ ?_)
    · refine (js_if ?_ ?_ ?_)
      · refine (jt_truth ?_ (fun _ => rfl))
        exact (je_isi (x := "") (T' := "str") (by decide) rfl T.n_isinstance (pe_tyn T.n_str (by decide +kernel)) (je_var (pv 1)))
      · refine (jss_one ?_)
        refine (js_ret ?_)
        refine (je_and ?_ (je_one ?_))
        · exact (je_isi (x := "") (T' := "str") (by decide) rfl T.n_isinstance (pe_tyn T.n_str (by decide +kernel)) (je_var (pv 0)))
        exact (je_cm (cr_eq (hu64 hr)) (je_var (pv 0)) (je_var (pv 1)))
      exact jss_nil
    refine (jss_one ?_)
    refine (js_ret ?_)
    refine (je_and ?_ (je_one ?_))
    · refine (je_callC (cal__law_int_1 T) (hr.mono (Nat.le_trans (m := 1) (by decide) (Nat.le_add_right _ _))) tk ?_)
      exact (ja_cons (je_var (pv 0)) ja_nil)
    exact (je_cm (cr_eq (hu64 hr)) (je_var (pv 0)) (je_var (pv 1)))
theorem cal__law_table_0 (T : Ft P w K mg cl) : Cal P w K mg base cl 1 "_law_table" [] fn__law_table [] := by
  obtain ⟨f, fd, F, g⟩ := T.d__law_table
  have b : Binds K fd [] [] := F.bindsN fun _ _ _ _ _ _ us hl => match us, hl with | [], _ => rfl
  refine ⟨f, fd, [], [], [], ⟨def_okD (N := N__law_table) F sc__law_table rfl (fun cdv A outer s H E hr tk po => ?_), g, F.kp⟩, b, .nil, fun _ => .nil⟩
  refine (jss_cons ?_ ?_)
  · first | with_reducible refine js_set (i := 0) (hN := ?_) (hi := ?_) (hx := ?_) (he := ?_) (hs := ?_) (hf := ?_) | refine js_set (i := 0) (hN := ?_) (hi := ?_) (hx := ?_) (he := ?_) (hs := ?_) (hf := ?_)
    · exact sc__law_table.nd
    · rfl
    · first | exact .inl rfl | exact .inr rfl
    · first | with_reducible refine (je_tup ?_) | refine (je_tup ?_)
      with_reducible refine ja_cons ?jh19 ?jt19 (hs := ?js19)
      case js19 => rfl
      case jh19 =>
        exact je_str
      exact (ja_cons je_str ja_nil)
    · rfl
    · first | exact .inl rfl | exact .inr rfl
  refine (jss_cons ?_ ?_)
  · first | with_reducible refine js_set (i := 1) (hN := ?_) (hi := ?_) (hx := ?_) (he := ?_) (hs := ?_) (hf := ?_) | refine js_set (i := 1) (hN := ?_) (hi := ?_) (hx := ?_) (he := ?_) (hs := ?_) (hf := ?_)
    · exact sc__law_table.nd
    · rfl
    · first | exact .inl rfl | exact .inr rfl
    · first | with_reducible refine (je_tup ?_) | refine (je_tup ?_)
      exact (ja_cons je_str ja_nil)
    · rfl
    · first | exact .inl rfl | exact .inr rfl
  refine (jss_cons ?_ ?_)
  · first | with_reducible refine js_set (i := 2) (hN := ?_) (hi := ?_) (hx := ?_) (he := ?_) (hs := ?_) (hf := ?_) | refine js_set (i := 2) (hN := ?_) (hi := ?_) (hx := ?_) (he := ?_) (hs := ?_) (hf := ?_)
    · exact sc__law_table.nd
    · rfl
    · first | exact .inl rfl | exact .inr rfl
    · first | with_reducible refine (je_tup ?_) | refine (je_tup ?_)
      with_reducible refine ja_cons ?jh20 ?jt20 (hs := ?js20)
      case js20 => rfl
      case jh20 =>
        exact je_str
      refine (ja_cons ?_ ja_nil)
      first | with_reducible refine (je_tup ?_) | refine (je_tup ?_)
      with_reducible refine ja_cons ?jh21 ?jt21 (hs := ?js21)
      case js21 => rfl
      case jh21 =>
        exact je_str
      with_reducible refine ja_cons ?jh22 ?jt22 (hs := ?js22)
      case js22 => rfl
      case jh22 =>
        exact je_str
      exact (ja_cons je_str ja_nil)
    · rfl
    · first | exact .inl rfl | exact .inr rfl
  refine (jss_one ?_)
  first | with_reducible refine (js_ret (JF.je ?_)) | refine (js_ret (JF.je ?_))
  first | with_reducible refine (jf_lst ?_) | refine (jf_lst ?_)
  with_reducible refine ja_cons ?jh23 ?jt23 (hs := ?js23)
  case js23 => rfl
  case jh23 =>
    first | with_reducible refine (je_tup ?_) | refine (je_tup ?_)
    with_reducible refine ja_cons ?jh24 ?jt24 (hs := ?js24)
    case js24 => rfl
    case jh24 =>
      exact je_str
    with_reducible refine ja_cons ?jh25 ?jt25 (hs := ?js25)
    case js25 => rfl
    case jh25 =>
      exact je_int
    with_reducible refine ja_cons ?jh26 ?jt26 (hs := ?js26)
    case js26 => rfl
    case jh26 =>
      exact je_str
    with_reducible refine ja_cons ?jh27 ?jt27 (hs := ?js27)
    case js27 => rfl
    case jh27 =>
      first | with_reducible refine (je_tup ?_) | refine (je_tup ?_)
      with_reducible refine ja_cons ?jh28 ?jt28 (hs := ?js28)
      case js28 => rfl
      case jh28 =>
        exact je_str
      with_reducible refine ja_cons ?jh29 ?jt29 (hs := ?js29)
      case js29 => rfl
      case jh29 =>
        first | with_reducible refine (je_tup ?_) | refine (je_tup ?_)
        with_reducible refine ja_cons ?jh30 ?jt30 (hs := ?js30)
        case js30 => rfl
        case jh30 =>
          exact je_str
        with_reducible refine ja_cons ?jh31 ?jt31 (hs := ?js31)
        case js31 => rfl
        case jh31 =>
          exact je_str
        exact (ja_cons je_str ja_nil)
      exact (ja_cons je_str ja_nil)
    refine (ja_cons ?_ ja_nil)
    first | with_reducible refine (je_tup ?_) | refine (je_tup ?_)
    with_reducible refine ja_cons ?jh32 ?jt32 (hs := ?js32)
    case js32 => rfl
    case jh32 =>
      exact je_str
    with_reducible refine ja_cons ?jh33 ?jt33 (hs := ?js33)
    case js33 => rfl
    case jh33 =>
      exact je_str
    refine (ja_cons ?_ ja_nil)
    first | with_reducible refine (je_tup ?_) | refine (je_tup ?_)
    with_reducible refine ja_cons ?jh34 ?jt34 (hs := ?js34)
    case js34 => rfl
    case jh34 =>
      exact je_str
    with_reducible refine ja_cons ?jh35 ?jt35 (hs := ?js35)
    case js35 => rfl
    case jh35 =>
      exact je_str
    exact (ja_cons je_str ja_nil)
  with_reducible refine ja_cons ?jh36 ?jt36 (hs := ?js36)
  case js36 => rfl
  case jh36 =>
    first | with_reducible refine (je_tup ?_) | refine (je_tup ?_)
    with_reducible refine ja_cons ?jh37 ?jt37 (hs := ?js37)
    case js37 => rfl
    case jh37 =>
      exact je_str
    with_reducible refine ja_cons ?jh38 ?jt38 (hs := ?js38)
    case js38 => rfl
    case jh38 =>
      exact je_int
    with_reducible refine ja_cons ?jh39 ?jt39 (hs := ?js39)
    case js39 => rfl
    case jh39 =>
      exact je_str
    with_reducible refine ja_cons ?jh40 ?jt40 (hs := ?js40)
    case js40 => rfl
    case jh40 =>
      first | with_reducible refine (je_tup ?_) | refine (je_tup ?_)
      with_reducible refine ja_cons ?jh41 ?jt41 (hs := ?js41)
      case js41 => rfl
      case jh41 =>
        exact je_str
      with_reducible refine ja_cons ?jh42 ?jt42 (hs := ?js42)
      case js42 => rfl
      case jh42 =>
        exact (je_var (pv 1))
      exact (ja_cons je_str ja_nil)
    exact (ja_cons je_str ja_nil)
  with_reducible refine ja_cons ?jh43 ?jt43 (hs := ?js43)
  case js43 => rfl
  case jh43 =>
    first | with_reducible refine (je_tup ?_) | refine (je_tup ?_)
    with_reducible refine ja_cons ?jh44 ?jt44 (hs := ?js44)
    case js44 => rfl
    case jh44 =>
      exact je_str
    with_reducible refine ja_cons ?jh45 ?jt45 (hs := ?js45)
    case js45 => rfl
    case jh45 =>
      exact je_int
    with_reducible refine ja_cons ?jh46 ?jt46 (hs := ?js46)
    case js46 => rfl
    case jh46 =>
      exact je_str
    with_reducible refine ja_cons ?jh47 ?jt47 (hs := ?js47)
    case js47 => rfl
    case jh47 =>
      first | with_reducible refine (je_tup ?_) | refine (je_tup ?_)
      with_reducible refine ja_cons ?jh48 ?jt48 (hs := ?js48)
      case js48 => rfl
      case jh48 =>
        exact je_str
      with_reducible refine ja_cons ?jh49 ?jt49 (hs := ?js49)
      case js49 => rfl
      case jh49 =>
        exact je_str
      exact (ja_cons (je_var (pv 1)) ja_nil)
    exact (ja_cons je_str ja_nil)
  with_reducible refine ja_cons ?jh50 ?jt50 (hs := ?js50)
  case js50 => rfl
  case jh50 =>
    first | with_reducible refine (je_tup ?_) | refine (je_tup ?_)
    with_reducible refine ja_cons ?jh51 ?jt51 (hs := ?js51)
    case js51 => rfl
    case jh51 =>
      exact je_str
    with_reducible refine ja_cons ?jh52 ?jt52 (hs := ?js52)
    case js52 => rfl
    case jh52 =>
      exact je_int
    with_reducible refine ja_cons ?jh53 ?jt53 (hs := ?js53)
    case js53 => rfl
    case jh53 =>
      exact je_str
    with_reducible refine ja_cons ?jh54 ?jt54 (hs := ?js54)
    case js54 => rfl
    case jh54 =>
      first | with_reducible refine (je_tup ?_) | refine (je_tup ?_)
      with_reducible refine ja_cons ?jh55 ?jt55 (hs := ?js55)
      case js55 => rfl
      case jh55 =>
        exact je_str
      with_reducible refine ja_cons ?jh56 ?jt56 (hs := ?js56)
      case js56 => rfl
      case jh56 =>
        exact je_str
      exact (ja_cons je_str ja_nil)
    exact (ja_cons je_str ja_nil)
  with_reducible refine ja_cons ?jh57 ?jt57 (hs := ?js57)
  case js57 => rfl
  case jh57 =>
    first | with_reducible refine (je_tup ?_) | refine (je_tup ?_)
    with_reducible refine ja_cons ?jh58 ?jt58 (hs := ?js58)
    case js58 => rfl
    case jh58 =>
      exact je_str
    with_reducible refine ja_cons ?jh59 ?jt59 (hs := ?js59)
    case js59 => rfl
    case jh59 =>
      exact je_int
    with_reducible refine ja_cons ?jh60 ?jt60 (hs := ?js60)
    case js60 => rfl
    case jh60 =>
      exact je_str
    with_reducible refine ja_cons ?jh61 ?jt61 (hs := ?js61)
    case js61 => rfl
    case jh61 =>
      first | with_reducible refine (je_tup ?_) | refine (je_tup ?_)
      with_reducible refine ja_cons ?jh62 ?jt62 (hs := ?js62)
      case js62 => rfl
      case jh62 =>
        exact je_str
      with_reducible refine ja_cons ?jh63 ?jt63 (hs := ?js63)
      case js63 => rfl
      case jh63 =>
        exact je_str
      exact (ja_cons je_str ja_nil)
    refine (ja_cons ?_ ja_nil)
    first | with_reducible refine (je_tup ?_) | refine (je_tup ?_)
    with_reducible refine ja_cons ?jh64 ?jt64 (hs := ?js64)
    case js64 => rfl
    case jh64 =>
      exact je_str
    with_reducible refine ja_cons ?jh65 ?jt65 (hs := ?js65)
    case js65 => rfl
    case jh65 =>
      exact je_str
    exact (ja_cons je_str ja_nil)
  with_reducible refine ja_cons ?jh66 ?jt66 (hs := ?js66)
  case js66 => rfl
  case jh66 =>
    first | with_reducible refine (je_tup ?_) | refine (je_tup ?_)
    with_reducible refine ja_cons ?jh67 ?jt67 (hs := ?js67)
    case js67 => rfl
    case jh67 =>
      exact je_str
    with_reducible refine ja_cons ?jh68 ?jt68 (hs := ?js68)
    case js68 => rfl
    case jh68 =>
      exact je_int
    with_reducible refine ja_cons ?jh69 ?jt69 (hs := ?js69)
    case js69 => rfl
    case jh69 =>
      exact je_str
    with_reducible refine ja_cons ?jh70 ?jt70 (hs := ?js70)
    case js70 => rfl
    case jh70 =>
      first | with_reducible refine (je_tup ?_) | refine (je_tup ?_)
      with_reducible refine ja_cons ?jh71 ?jt71 (hs := ?js71)
      case js71 => rfl
      case jh71 =>
        exact je_str
      with_reducible refine ja_cons ?jh72 ?jt72 (hs := ?js72)
      case js72 => rfl
      case jh72 =>
        first | with_reducible refine (je_tup ?_) | refine (je_tup ?_)
        with_reducible refine ja_cons ?jh73 ?jt73 (hs := ?js73)
        case js73 => rfl
        case jh73 =>
          exact je_str
        with_reducible refine ja_cons ?jh74 ?jt74 (hs := ?js74)
        case js74 => rfl
        case jh74 =>
          exact je_str
        exact (ja_cons je_str ja_nil)
      exact (ja_cons je_str ja_nil)
    refine (ja_cons ?_ ja_nil)
    first | with_reducible refine (je_tup ?_) | refine (je_tup ?_)
    with_reducible refine ja_cons ?jh75 ?jt75 (hs := ?js75)
    case js75 => rfl
    case jh75 =>
      exact je_str
    with_reducible refine ja_cons ?jh76 ?jt76 (hs := ?js76)
    case js76 => rfl
    case jh76 =>
      exact je_str
    refine (ja_cons ?_ ja_nil)
    first | with_reducible refine (je_tup ?_) | refine (je_tup ?_)
    with_reducible refine ja_cons ?jh77 ?jt77 (hs := ?js77)
    case js77 => rfl
    case jh77 =>
      exact je_str
    with_reducible refine ja_cons ?jh78 ?jt78 (hs := ?js78)
    case js78 => rfl
    case jh78 =>
      exact je_str
    exact (ja_cons je_str ja_nil)
  with_reducible refine ja_cons ?jh79 ?jt79 (hs := ?js79)
  case js79 => rfl
  case jh79 =>
    first | with_reducible refine (je_tup ?_) | refine (je_tup ?_)
    with_reducible refine ja_cons ?jh80 ?jt80 (hs := ?js80)
    case js80 => rfl
    case jh80 =>
      exact je_str
    with_reducible refine ja_cons ?jh81 ?jt81 (hs := ?js81)
    case js81 => rfl
    case jh81 =>
      exact je_int
    with_reducible refine ja_cons ?jh82 ?jt82 (hs := ?js82)
    case js82 => rfl
    case jh82 =>
      exact je_str
    with_reducible refine ja_cons ?jh83 ?jt83 (hs := ?js83)
    case js83 => rfl
    case jh83 =>
      first | with_reducible refine (je_tup ?_) | refine (je_tup ?_)
      with_reducible refine ja_cons ?jh84 ?jt84 (hs := ?js84)
      case js84 => rfl
      case jh84 =>
        exact je_str
      with_reducible refine ja_cons ?jh85 ?jt85 (hs := ?js85)
      case js85 => rfl
      case jh85 =>
        exact je_str
      refine (ja_cons ?_ ja_nil)
      first | with_reducible refine (je_tup ?_) | refine (je_tup ?_)
      with_reducible refine ja_cons ?jh86 ?jt86 (hs := ?js86)
      case js86 => rfl
      case jh86 =>
        exact je_str
      with_reducible refine ja_cons ?jh87 ?jt87 (hs := ?js87)
      case js87 => rfl
      case jh87 =>
        exact je_str
      exact (ja_cons je_str ja_nil)
    refine (ja_cons ?_ ja_nil)
    first | with_reducible refine (je_tup ?_) | refine (je_tup ?_)
    with_reducible refine ja_cons ?jh88 ?jt88 (hs := ?js88)
    case js88 => rfl
    case jh88 =>
      exact je_str
    with_reducible refine ja_cons ?jh89 ?jt89 (hs := ?js89)
    case js89 => rfl
    case jh89 =>
      first | with_reducible refine (je_tup ?_) | refine (je_tup ?_)
      with_reducible refine ja_cons ?jh90 ?jt90 (hs := ?js90)
      case js90 => rfl
      case jh90 =>
        exact je_str
      with_reducible refine ja_cons ?jh91 ?jt91 (hs := ?js91)
      case js91 => rfl
      case jh91 =>
        exact je_str
      exact (ja_cons je_str ja_nil)
    refine (ja_cons ?_ ja_nil)
    first | with_reducible refine (je_tup ?_) | refine (je_tup ?_)
    with_reducible refine ja_cons ?jh92 ?jt92 (hs := ?js92)
    case js92 => rfl
    case jh92 =>
      exact je_str
    with_reducible refine ja_cons ?jh93 ?jt93 (hs := ?js93)
    case js93 => rfl
    case jh93 =>
      exact je_str
    exact (ja_cons je_str ja_nil)
  with_reducible refine ja_cons ?jh94 ?jt94 (hs := ?js94)
  case js94 => rfl
  case jh94 =>
    first | with_reducible refine (je_tup ?_) | refine (je_tup ?_)
    with_reducible refine ja_cons ?jh95 ?jt95 (hs := ?js95)
    case js95 => rfl
    case jh95 =>
      exact je_str
    with_reducible refine ja_cons ?jh96 ?jt96 (hs := ?js96)
    case js96 => rfl
    case jh96 =>
      exact je_int
    with_reducible refine ja_cons ?jh97 ?jt97 (hs := ?js97)
    case js97 => rfl
    case jh97 =>
      exact je_str
    with_reducible refine ja_cons ?jh98 ?jt98 (hs := ?js98)
    case js98 => rfl
    case jh98 =>
      first | with_reducible refine (je_tup ?_) | refine (je_tup ?_)
      with_reducible refine ja_cons ?jh99 ?jt99 (hs := ?js99)
      case js99 => rfl
      case jh99 =>
        exact je_str
      exact (ja_cons (je_var (pv 0)) ja_nil)
    exact (ja_cons (je_var (pv 0)) ja_nil)
  with_reducible refine ja_cons ?jh100 ?jt100 (hs := ?js100)
  case js100 => rfl
  case jh100 =>
    first | with_reducible refine (je_tup ?_) | refine (je_tup ?_)
    with_reducible refine ja_cons ?jh101 ?jt101 (hs := ?js101)
    case js101 => rfl
    case jh101 =>
      exact je_str
    with_reducible refine ja_cons ?jh102 ?jt102 (hs := ?js102)
    case js102 => rfl
    case jh102 =>
      exact je_int
    with_reducible refine ja_cons ?jh103 ?jt103 (hs := ?js103)
    case js103 => rfl
    case jh103 =>
      exact je_str
    with_reducible refine ja_cons ?jh104 ?jt104 (hs := ?js104)
    case js104 => rfl
    case jh104 =>
      first | with_reducible refine (je_tup ?_) | refine (je_tup ?_)
      with_reducible refine ja_cons ?jh105 ?jt105 (hs := ?js105)
      case js105 => rfl
      case jh105 =>
        exact je_str
      with_reducible refine ja_cons ?jh106 ?jt106 (hs := ?js106)
      case js106 => rfl
      case jh106 =>
        exact (je_var (pv 0))
      exact (ja_cons (je_var (pv 0)) ja_nil)
    exact (ja_cons (je_var (pv 0)) ja_nil)
  with_reducible refine ja_cons ?jh107 ?jt107 (hs := ?js107)
  case js107 => rfl
  case jh107 =>
    first | with_reducible refine (je_tup ?_) | refine (je_tup ?_)
    with_reducible refine ja_cons ?jh108 ?jt108 (hs := ?js108)
    case js108 => rfl
    case jh108 =>
      exact je_str
    with_reducible refine ja_cons ?jh109 ?jt109 (hs := ?js109)
    case js109 => rfl
    case jh109 =>
      exact je_int
    with_reducible refine ja_cons ?jh110 ?jt110 (hs := ?js110)
    case js110 => rfl
    case jh110 =>
      exact je_str
    with_reducible refine ja_cons ?jh111 ?jt111 (hs := ?js111)
    case js111 => rfl
    case jh111 =>
      exact (je_var (pv 2))
    refine (ja_cons ?_ ja_nil)
    first | with_reducible refine (je_tup ?_) | refine (je_tup ?_)
    with_reducible refine ja_cons ?jh112 ?jt112 (hs := ?js112)
    case js112 => rfl
    case jh112 =>
      exact je_str
    refine (ja_cons ?_ ja_nil)
    first | with_reducible refine (je_tup ?_) | refine (je_tup ?_)
    with_reducible refine ja_cons ?jh113 ?jt113 (hs := ?js113)
    case js113 => rfl
    case jh113 =>
      exact je_str
    with_reducible refine ja_cons ?jh114 ?jt114 (hs := ?js114)
    case js114 => rfl
    case jh114 =>
      exact (je_var (pv 0))
    refine (ja_cons ?_ ja_nil)
    first | with_reducible refine (je_tup ?_) | refine (je_tup ?_)
    with_reducible refine ja_cons ?jh115 ?jt115 (hs := ?js115)
    case js115 => rfl
    case jh115 =>
      exact je_str
    exact (ja_cons je_str ja_nil)
  with_reducible refine ja_cons ?jh116 ?jt116 (hs := ?js116)
  case js116 => rfl
  case jh116 =>
    first | with_reducible refine (je_tup ?_) | refine (je_tup ?_)
    with_reducible refine ja_cons ?jh117 ?jt117 (hs := ?js117)
    case js117 => rfl
    case jh117 =>
      exact je_str
    with_reducible refine ja_cons ?jh118 ?jt118 (hs := ?js118)
    case js118 => rfl
    case jh118 =>
      exact je_int
    with_reducible refine ja_cons ?jh119 ?jt119 (hs := ?js119)
    case js119 => rfl
    case jh119 =>
      exact je_str
    with_reducible refine ja_cons ?jh120 ?jt120 (hs := ?js120)
    case js120 => rfl
    case jh120 =>
      exact (je_var (pv 0))
    refine (ja_cons ?_ ja_nil)
    first | with_reducible refine (je_tup ?_) | refine (je_tup ?_)
    with_reducible refine ja_cons ?jh121 ?jt121 (hs := ?js121)
    case js121 => rfl
    case jh121 =>
      exact je_str
    with_reducible refine ja_cons ?jh122 ?jt122 (hs := ?js122)
    case js122 => rfl
    case jh122 =>
      exact (je_var (pv 1))
    refine (ja_cons ?_ ja_nil)
    first | with_reducible refine (je_tup ?_) | refine (je_tup ?_)
    with_reducible refine ja_cons ?jh123 ?jt123 (hs := ?js123)
    case js123 => rfl
    case jh123 =>
      exact je_str
    with_reducible refine ja_cons ?jh124 ?jt124 (hs := ?js124)
    case js124 => rfl
    case jh124 =>
      exact (je_var (pv 0))
    exact (ja_cons je_str ja_nil)
  with_reducible refine ja_cons ?jh125 ?jt125 (hs := ?js125)
  case js125 => rfl
  case jh125 =>
    first | with_reducible refine (je_tup ?_) | refine (je_tup ?_)
    with_reducible refine ja_cons ?jh126 ?jt126 (hs := ?js126)
    case js126 => rfl
    case jh126 =>
      exact je_str
    with_reducible refine ja_cons ?jh127 ?jt127 (hs := ?js127)
    case js127 => rfl
    case jh127 =>
      exact je_int
    with_reducible refine ja_cons ?jh128 ?jt128 (hs := ?js128)
    case js128 => rfl
    case jh128 =>
      exact je_str
    with_reducible refine ja_cons ?jh129 ?jt129 (hs := ?js129)
    case js129 => rfl
    case jh129 =>
      exact (je_var (pv 2))
    refine (ja_cons ?_ ja_nil)
    first | with_reducible refine (je_tup ?_) | refine (je_tup ?_)
    with_reducible refine ja_cons ?jh130 ?jt130 (hs := ?js130)
    case js130 => rfl
    case jh130 =>
      exact je_str
    with_reducible refine ja_cons ?jh131 ?jt131 (hs := ?js131)
    case js131 => rfl
    case jh131 =>
      first | with_reducible refine (je_tup ?_) | refine (je_tup ?_)
      with_reducible refine ja_cons ?jh132 ?jt132 (hs := ?js132)
      case js132 => rfl
      case jh132 =>
        exact je_str
      refine (ja_cons ?_ ja_nil)
      first | with_reducible refine (je_tup ?_) | refine (je_tup ?_)
      with_reducible refine ja_cons ?jh133 ?jt133 (hs := ?js133)
      case js133 => rfl
      case jh133 =>
        exact je_str
      with_reducible refine ja_cons ?jh134 ?jt134 (hs := ?js134)
      case js134 => rfl
      case jh134 =>
        exact (je_var (pv 0))
      exact (ja_cons je_str ja_nil)
    exact (ja_cons (je_var (pv 0)) ja_nil)
  with_reducible refine ja_cons ?jh135 ?jt135 (hs := ?js135)
  case js135 => rfl
  case jh135 =>
    first | with_reducible refine (je_tup ?_) | refine (je_tup ?_)
    with_reducible refine ja_cons ?jh136 ?jt136 (hs := ?js136)
    case js136 => rfl
    case jh136 =>
      exact je_str
    with_reducible refine ja_cons ?jh137 ?jt137 (hs := ?js137)
    case js137 => rfl
    case jh137 =>
      exact je_int
    with_reducible refine ja_cons ?jh138 ?jt138 (hs := ?js138)
    case js138 => rfl
    case jh138 =>
      exact je_str
    with_reducible refine ja_cons ?jh139 ?jt139 (hs := ?js139)
    case js139 => rfl
    case jh139 =>
      first | with_reducible refine (je_tup ?_) | refine (je_tup ?_)
      with_reducible refine ja_cons ?jh140 ?jt140 (hs := ?js140)
      case js140 => rfl
      case jh140 =>
        exact je_str
      with_reducible refine ja_cons ?jh141 ?jt141 (hs := ?js141)
      case js141 => rfl
      case jh141 =>
        first | with_reducible refine (je_tup ?_) | refine (je_tup ?_)
        with_reducible refine ja_cons ?jh142 ?jt142 (hs := ?js142)
        case js142 => rfl
        case jh142 =>
          exact je_str
        with_reducible refine ja_cons ?jh143 ?jt143 (hs := ?js143)
        case js143 => rfl
        case jh143 =>
          exact je_str
        exact (ja_cons je_str ja_nil)
      exact (ja_cons je_str ja_nil)
    refine (ja_cons ?_ ja_nil)
    first | with_reducible refine (je_tup ?_) | refine (je_tup ?_)
    with_reducible refine ja_cons ?jh144 ?jt144 (hs := ?js144)
    case js144 => rfl
    case jh144 =>
      exact je_str
    with_reducible refine ja_cons ?jh145 ?jt145 (hs := ?js145)
    case js145 => rfl
    case jh145 =>
      first | with_reducible refine (je_tup ?_) | refine (je_tup ?_)
      with_reducible refine ja_cons ?jh146 ?jt146 (hs := ?js146)
      case js146 => rfl
      case jh146 =>
        exact je_str
      with_reducible refine ja_cons ?jh147 ?jt147 (hs := ?js147)
      case js147 => rfl
      case jh147 =>
        exact je_str
      exact (ja_cons je_str ja_nil)
    refine (ja_cons ?_ ja_nil)
    first | with_reducible refine (je_tup ?_) | refine (je_tup ?_)
    with_reducible refine ja_cons ?jh148 ?jt148 (hs := ?js148)
    case js148 => rfl
    case jh148 =>
      exact je_str
    with_reducible refine ja_cons ?jh149 ?jt149 (hs := ?js149)
    case js149 => rfl
    case jh149 =>
      exact je_str
    exact (ja_cons je_str ja_nil)
  with_reducible refine ja_cons ?jh150 ?jt150 (hs := ?js150)
  case js150 => rfl
  case jh150 =>
    first | with_reducible refine (je_tup ?_) | refine (je_tup ?_)
    with_reducible refine ja_cons ?jh151 ?jt151 (hs := ?js151)
    case js151 => rfl
    case jh151 =>
      exact je_str
    with_reducible refine ja_cons ?jh152 ?jt152 (hs := ?js152)
    case js152 => rfl
    case jh152 =>
      exact je_int
    with_reducible refine ja_cons ?jh153 ?jt153 (hs := ?js153)
    case js153 => rfl
    case jh153 =>
      exact je_str
    with_reducible refine ja_cons ?jh154 ?jt154 (hs := ?js154)
    case js154 => rfl
    case jh154 =>
      exact (je_var (pv 0))
    refine (ja_cons ?_ ja_nil)
    first | with_reducible refine (je_tup ?_) | refine (je_tup ?_)
    with_reducible refine ja_cons ?jh155 ?jt155 (hs := ?js155)
    case js155 => rfl
    case jh155 =>
      exact je_str
    with_reducible refine ja_cons ?jh156 ?jt156 (hs := ?js156)
    case js156 => rfl
    case jh156 =>
      exact (je_var (pv 1))
    refine (ja_cons ?_ ja_nil)
    first | with_reducible refine (je_tup ?_) | refine (je_tup ?_)
    with_reducible refine ja_cons ?jh157 ?jt157 (hs := ?js157)
    case js157 => rfl
    case jh157 =>
      exact je_str
    with_reducible refine ja_cons ?jh158 ?jt158 (hs := ?js158)
    case js158 => rfl
    case jh158 =>
      exact je_str
    exact (ja_cons (je_var (pv 0)) ja_nil)
  with_reducible refine ja_cons ?jh159 ?jt159 (hs := ?js159)
  case js159 => rfl
  case jh159 =>
    first | with_reducible refine (je_tup ?_) | refine (je_tup ?_)
    with_reducible refine ja_cons ?jh160 ?jt160 (hs := ?js160)
    case js160 => rfl
    case jh160 =>
      exact je_str
    with_reducible refine ja_cons ?jh161 ?jt161 (hs := ?js161)
    case js161 => rfl
    case jh161 =>
      exact je_int
    with_reducible refine ja_cons ?jh162 ?jt162 (hs := ?js162)
    case js162 => rfl
    case jh162 =>
      exact je_str
    with_reducible refine ja_cons ?jh163 ?jt163 (hs := ?js163)
    case js163 => rfl
    case jh163 =>
      first | with_reducible refine (je_tup ?_) | refine (je_tup ?_)
      with_reducible refine ja_cons ?jh164 ?jt164 (hs := ?js164)
      case js164 => rfl
      case jh164 =>
        exact je_str
      with_reducible refine ja_cons ?jh165 ?jt165 (hs := ?js165)
      case js165 => rfl
      case jh165 =>
        exact (je_var (pv 0))
      exact (ja_cons je_str ja_nil)
    refine (ja_cons ?_ ja_nil)
    first | with_reducible refine (je_tup ?_) | refine (je_tup ?_)
    with_reducible refine ja_cons ?jh166 ?jt166 (hs := ?js166)
    case js166 => rfl
    case jh166 =>
      exact je_str
    with_reducible refine ja_cons ?jh167 ?jt167 (hs := ?js167)
    case js167 => rfl
    case jh167 =>
      exact je_str
    exact (ja_cons (je_var (pv 0)) ja_nil)
  with_reducible refine ja_cons ?jh168 ?jt168 (hs := ?js168)
  case js168 => rfl
  case jh168 =>
    first | with_reducible refine (je_tup ?_) | refine (je_tup ?_)
    with_reducible refine ja_cons ?jh169 ?jt169 (hs := ?js169)
    case js169 => rfl
    case jh169 =>
      exact je_str
    with_reducible refine ja_cons ?jh170 ?jt170 (hs := ?js170)
    case js170 => rfl
    case jh170 =>
      exact je_int
    with_reducible refine ja_cons ?jh171 ?jt171 (hs := ?js171)
    case js171 => rfl
    case jh171 =>
      exact je_str
    with_reducible refine ja_cons ?jh172 ?jt172 (hs := ?js172)
    case js172 => rfl
    case jh172 =>
      first | with_reducible refine (je_tup ?_) | refine (je_tup ?_)
      with_reducible refine ja_cons ?jh173 ?jt173 (hs := ?js173)
      case js173 => rfl
      case jh173 =>
        exact je_str
      with_reducible refine ja_cons ?jh174 ?jt174 (hs := ?js174)
      case js174 => rfl
      case jh174 =>
        first | with_reducible refine (je_tup ?_) | refine (je_tup ?_)
        with_reducible refine ja_cons ?jh175 ?jt175 (hs := ?js175)
        case js175 => rfl
        case jh175 =>
          exact je_str
        refine (ja_cons ?_ ja_nil)
        first | with_reducible refine (je_tup ?_) | refine (je_tup ?_)
        with_reducible refine ja_cons ?jh176 ?jt176 (hs := ?js176)
        case js176 => rfl
        case jh176 =>
          exact je_str
        with_reducible refine ja_cons ?jh177 ?jt177 (hs := ?js177)
        case js177 => rfl
        case jh177 =>
          exact je_str
        exact (ja_cons je_str ja_nil)
      exact (ja_cons je_str ja_nil)
    refine (ja_cons ?_ ja_nil)
    first | with_reducible refine (je_tup ?_) | refine (je_tup ?_)
    with_reducible refine ja_cons ?jh178 ?jt178 (hs := ?js178)
    case js178 => rfl
    case jh178 =>
      exact je_str
    with_reducible refine ja_cons ?jh179 ?jt179 (hs := ?js179)
    case js179 => rfl
    case jh179 =>
      exact je_str
    refine (ja_cons ?_ ja_nil)
    first | with_reducible refine (je_tup ?_) | refine (je_tup ?_)
    with_reducible refine ja_cons ?jh180 ?jt180 (hs := ?js180)
    case js180 => rfl
    case jh180 =>
      exact je_str
    refine (ja_cons ?_ ja_nil)
    first | with_reducible refine (je_tup ?_) | refine (je_tup ?_)
    with_reducible refine ja_cons ?jh181 ?jt181 (hs := ?js181)
    case js181 => rfl
    case jh181 =>
      exact je_str
    with_reducible refine ja_cons ?jh182 ?jt182 (hs := ?js182)
    case js182 => rfl
    case jh182 =>
      exact je_str
    exact (ja_cons je_str ja_nil)
  with_reducible refine ja_cons ?jh183 ?jt183 (hs := ?js183)
  case js183 => rfl
  case jh183 =>
    first | with_reducible refine (je_tup ?_) | refine (je_tup ?_)
    with_reducible refine ja_cons ?jh184 ?jt184 (hs := ?js184)
    case js184 => rfl
    case jh184 =>
      exact je_str
    with_reducible refine ja_cons ?jh185 ?jt185 (hs := ?js185)
    case js185 => rfl
    case jh185 =>
      exact je_int
    with_reducible refine ja_cons ?jh186 ?jt186 (hs := ?js186)
    case js186 => rfl
    case jh186 =>
      exact je_str
    with_reducible refine ja_cons ?jh187 ?jt187 (hs := ?js187)
    case js187 => rfl
    case jh187 =>
      exact (je_var (pv 2))
    refine (ja_cons ?_ ja_nil)
    first | with_reducible refine (je_tup ?_) | refine (je_tup ?_)
    with_reducible refine ja_cons ?jh188 ?jt188 (hs := ?js188)
    case js188 => rfl
    case jh188 =>
      exact je_str
    with_reducible refine ja_cons ?jh189 ?jt189 (hs := ?js189)
    case js189 => rfl
    case jh189 =>
      exact (je_var (pv 0))
    refine (ja_cons ?_ ja_nil)
    first | with_reducible refine (je_tup ?_) | refine (je_tup ?_)
    with_reducible refine ja_cons ?jh190 ?jt190 (hs := ?js190)
    case js190 => rfl
    case jh190 =>
      exact je_str
    refine (ja_cons ?_ ja_nil)
    first | with_reducible refine (je_tup ?_) | refine (je_tup ?_)
    with_reducible refine ja_cons ?jh191 ?jt191 (hs := ?js191)
    case js191 => rfl
    case jh191 =>
      exact je_str
    with_reducible refine ja_cons ?jh192 ?jt192 (hs := ?js192)
    case js192 => rfl
    case jh192 =>
      exact je_str
    exact (ja_cons (je_var (pv 0)) ja_nil)
  refine (ja_cons ?_ ja_nil)
  first | with_reducible refine (je_tup ?_) | refine (je_tup ?_)
  with_reducible refine ja_cons ?jh193 ?jt193 (hs := ?js193)
  case js193 => rfl
  case jh193 =>
    exact je_str
  with_reducible refine ja_cons ?jh194 ?jt194 (hs := ?js194)
  case js194 => rfl
  case jh194 =>
    exact je_int
  with_reducible refine ja_cons ?jh195 ?jt195 (hs := ?js195)
  case js195 => rfl
  case jh195 =>
    exact je_str
  with_reducible refine ja_cons ?jh196 ?jt196 (hs := ?js196)
  case js196 => rfl
  case jh196 =>
    exact (je_var (pv 0))
  refine (ja_cons ?_ ja_nil)
  first | with_reducible refine (je_tup ?_) | refine (je_tup ?_)
  with_reducible refine ja_cons ?jh197 ?jt197 (hs := ?js197)
  case js197 => rfl
  case jh197 =>
    exact je_str
  with_reducible refine ja_cons ?jh198 ?jt198 (hs := ?js198)
  case js198 => rfl
  case jh198 =>
    first | with_reducible refine (je_tup ?_) | refine (je_tup ?_)
    with_reducible refine ja_cons ?jh199 ?jt199 (hs := ?js199)
    case js199 => rfl
    case jh199 =>
      exact je_str
    with_reducible refine ja_cons ?jh200 ?jt200 (hs := ?js200)
    case js200 => rfl
    case jh200 =>
      exact (je_var (pv 1))
    exact (ja_cons je_str ja_nil)
  refine (ja_cons ?_ ja_nil)
  first | with_reducible refine (je_tup ?_) | refine (je_tup ?_)
  with_reducible refine ja_cons ?jh201 ?jt201 (hs := ?js201)
  case js201 => rfl
  case jh201 =>
    exact je_str
  refine (ja_cons ?_ ja_nil)
  first | with_reducible refine (je_tup ?_) | refine (je_tup ?_)
  with_reducible refine ja_cons ?jh202 ?jt202 (hs := ?js202)
  case js202 => rfl
  case jh202 =>
    exact je_str
  with_reducible refine ja_cons ?jh203 ?jt203 (hs := ?js203)
  case js203 => rfl
  case jh203 =>
    exact je_str
  exact (ja_cons je_str ja_nil)
theorem cal__law_put_2 (T : Ft P w K mg cl) : ∀ n, Cal P w K mg base cl (0 + n) "_law_put" [false, false] (fn__law_put n) []
  | 0 => by
    obtain ⟨f, fd, F, g⟩ := T.d__law_put
    exact ⟨f, fd, ["_law_shape", "_law_letters_here"], [], [], ⟨none_ok fun _ => rfl, g, F.kp⟩, F.bindsN fun _ _ _ _ _ _ us hl => match us, hl with | [_, _], _ => rfl, .nil, fun _ => .nil⟩
  | n + 1 => by
    have ih := cal__law_put_2 T n
    obtain ⟨f, fd, F, g⟩ := T.d__law_put
    have b : Binds K fd ["_law_shape", "_law_letters_here"] [] := F.bindsN fun _ _ _ _ _ _ us hl => match us, hl with | [_, _], _ => rfl
    refine ⟨f, fd, ["_law_shape", "_law_letters_here"], [], [], ⟨def_okD (N := N__law_put) F sc__law_put rfl (fun cdv A outer s H E hr tk po => ?_), g, F.kp⟩, b, .nil, fun _ => .nil⟩
    refine (jss_cons ?_ ?_)
    · refine (js_if ?_ ?_ ?_)
      · refine (jt_truth ?_ (fun _ => rfl))
        exact (je_isi (x := "") (T' := "str") (by decide) rfl T.n_isinstance (pe_tyn T.n_str (by decide +kernel)) (je_var (pv 0)))
      · refine (jss_one ?_)
        refine (js_ret ?_)
        refine (je_ixV (pv 1) ?_)
        exact (je_findC (je_var (pv 0)))
      exact jss_nil
    refine (jss_one ?_)
    refine (js_ret ?_)
    refine (je_calltuple rfl T.n_tuple ?_)
    refine (ja_cons ?_ ja_nil)
    refine (je_add (JF.je ?_) (JF.je ?_))
    · first | with_reducible refine (jf_lst ?_) | refine (jf_lst ?_)
      refine (ja_cons ?_ ja_nil)
      exact (je_ixV (pv 0) je_int)
    refine (jf_comp (own := [("_law_inner", 2)]) (ts := [2]) rfl sc__law_put.nd ?_ (blkOk_by (N := N__law_put) (sc := (defScope s__law_put)) (by decide +kernel)) (by decide) (fun _ _ _ _ _ => ?_) (fun _ _ _ _ _ => jts_nil) (fun _ _ _ _ _ => ?_))
    · refine (ji_seq ?_)
      exact (je_slice (je_var (pv 0)) (JO.some je_int) JO.none)
    · exact (jg_name (pg_name (i := 2) sc__law_put.nd rfl (by first | exact .inl rfl | exact .inr rfl)))
    refine (je_callC (ih) hr takes0 ?_)
    with_reducible refine ja_cons ?jh204 ?jt204 (hs := ?js204)
    case js204 => rfl
    case jh204 =>
      exact (je_var (pv 2))
    exact (ja_cons (je_var (pv 1)) ja_nil)
theorem cal__law_letters_5 (T : Ft P w K mg cl) : Cal P w K mg base cl 11 "_law_letters" [true, false, false, false, false] fn__law_letters [] := by
  obtain ⟨f, fd, F, g⟩ := T.d__law_letters
  have b : Binds K fd ["_law_hand_here", "_law_called", "_law_many", "_law_leaves", "_law_deep"] [] := F.bindsN fun _ _ _ _ _ _ us hl => match us, hl with | [_, _, _, _, _], _ => rfl
  refine ⟨f, fd, ["_law_hand_here", "_law_called", "_law_many", "_law_leaves", "_law_deep"], [], [], ⟨def_okD (N := N__law_letters) F sc__law_letters rfl (fun cdv A outer s H E hr tk po => ?_), g, F.kp⟩, b, .nil, fun _ => .nil⟩
  refine (jss_cons ?_ ?_)
  · first | with_reducible refine js_setO (i := 5) (hN := ?_) (hi := ?_) (hx := ?_) (he := ?_) (hs := ?_) (hf := ?_) | refine js_setO (i := 5) (hN := ?_) (hi := ?_) (hx := ?_) (he := ?_) (hs := ?_) (hf := ?_)
    · exact sc__law_letters.nd
    · rfl
    · first | exact .inl rfl | exact .inr rfl
    · exact (jf_lst ja_nil)
    · rfl
    · first | exact .inl rfl | exact .inr rfl
  refine (jss_cons ?_ ?_)
  · refine (js_for (ts := [6]) po rfl ?_ ?_ ?_)
    · exact (ji_range1 rfl T.n_range (je_var (pv 2)))
    · exact (jg_name (pg_name (i := 6) sc__law_letters.nd rfl (by first | exact .inl rfl | exact .inr rfl)))
    refine (jss_one ?_)
    refine (js_app (pv 5) ?_)
    refine (je_callC (cal__law_program_4 T 8) (hr.mono (by decide)) tk ?_)
    refine (ja_refA (pv 0) (ja_cons ?_ ?_))
    · exact (je_var (pv 1))
    with_reducible refine ja_cons ?jh205 ?jt205 (hs := ?js205)
    case js205 => rfl
    case jh205 =>
      refine (je_add ?_ ?_)
      · exact je_int
      refine (je_callC (cal__law_take_2 T) (hr.mono (by decide)) tk ?_)
      exact (ja_refA (pv 0) (ja_cons (je_var (pv 3)) ja_nil))
    refine (ja_cons ?_ ja_nil)
    refine (je_callC (cal__law_take_2 T) (hr.mono (by decide)) tk ?_)
    refine (ja_refA (pv 0) (ja_cons ?_ ja_nil))
    exact (je_add (je_var (pv 4)) je_int)
  refine (jss_cons ?_ ?_)
  · refine (js_if ?_ ?_ ?_)
    · refine (jt_cm (cr_eq (hu64 hr)) ?_ ?_)
      · refine (je_callC (cal__law_take_2 T) (hr.mono (by decide)) tk ?_)
        exact (ja_refA (pv 0) (ja_cons je_int ja_nil))
      exact je_int
    · refine (jss_one ?_)
      refine (js_put (pv 5) ?_ ?_)
      · exact (je_sub (je_var (pv 2)) je_int)
      exact (je_ixV (pv 5) je_int)
    exact jss_nil
  refine (jss_one ?_)
  exact (js_ret (je_var (pv 5)))
theorem cal__law_word_3 (T : Ft P w K mg cl) : Cal P w K mg base cl 7 "_law_word" [false, false, false] fn__law_word [] := by
  obtain ⟨f, fd, F, g⟩ := T.d__law_word
  have b : Binds K fd ["_law_way", "_law_name", "_law_programs"] [] := F.bindsN fun _ _ _ _ _ _ us hl => match us, hl with | [_, _, _], _ => rfl
  refine ⟨f, fd, ["_law_way", "_law_name", "_law_programs"], [], [], ⟨def_okD (N := N__law_word) F sc__law_word rfl (fun cdv A outer s H E hr tk po => ?_), g, F.kp⟩, b, .nil, fun _ => .nil⟩
  refine (jss_cons ?_ ?_)
  · refine (js_tryCl T.tab rfl rfl tk (fun W pn xe tk2 po2 => ?_) (clA (i := 3) T.g_BadRewriting sc__law_word.nd (fun a oe cls d pn hz hf hcl => ?_) (clP T.g_CheckerError (fun _ _ _ _ _ _ => ?_) clN)))
    · refine (jss_one ?_)
      refine (js_if ?_ ?_ ?_)
      · exact (jt_cm (cr_eq (hu64 hr)) (je_var (pv 0)) je_int)
      · refine (jss_one ?_)
        refine (js_expr ?_)
        refine (je_callC (cal_verdict_of_1 T) (hr.mono (by decide)) tk2 ?_)
        exact (ja_cons (je_var (pv 1)) ja_nil)
      refine (jss_one ?_)
      refine (js_if ?_ ?_ ?_)
      · exact (jt_cm (cr_eq (hu64 hr)) (je_var (pv 0)) je_int)
      · refine (jss_one ?_)
        refine (js_expr ?_)
        refine (je_callC (cal_letters_of_1 T) (hr.mono (by decide)) tk2 ?_)
        exact (ja_cons (je_var (pv 1)) ja_nil)
      refine (jss_one ?_)
      refine (js_expr ?_)
      refine (je_callC (cal_rewriting_pair_2 T) (hr.mono (by decide)) tk2 ?_)
      with_reducible refine ja_cons ?jh206 ?jt206 (hs := ?js206)
      case js206 => rfl
      case jh206 =>
        exact (je_var (pv 1))
      exact (ja_cons (je_var (pv 2)) ja_nil)
    · refine (jss_one ?_)
      exact (js_ret (je_xf T.xf_BadRewriting_what hcl hz hf (pv 3)))
    refine (jss_one ?_)
    exact (js_ret je_str)
  refine (jss_one ?_)
  exact (js_ret je_str)
theorem ok_law (T : Ft P w K mg cl) {f : Addr} {fd : FuncData} (F : FunD K "law" "law" (defArgs s_law) (defBody s_law) (defScope s_law) [] [] f fd) : FnOk P w K mg base (L2.CX P w) 16 f fd ["_law_script"] (SpF K cl [false] fn_law) := by
  refine def_okD (N := N_law) F sc_law rfl (fun cdv A outer s H E hr tk po => ?_)
  refine (jss_cons ?_ ?_)
  · first | with_reducible refine js_setO (i := 1) (hN := ?_) (hi := ?_) (hx := ?_) (he := ?_) (hs := ?_) (hf := ?_) | refine js_setO (i := 1) (hN := ?_) (hi := ?_) (hx := ?_) (he := ?_) (hs := ?_) (hf := ?_)
    · exact sc_law.nd
    · rfl
    · first | exact .inl rfl | exact .inr rfl
    · refine (jf_callC (cal__law_hand_1 T) (hr.mono (by decide)) tk ?_)
      exact (ja_cons (je_var (pv 0)) ja_nil)
    · rfl
    · first | exact .inl rfl | exact .inr rfl
  refine (jss_cons ?_ ?_)
  · exact (js_set (i := 2) sc_law.nd rfl (by first | exact .inl rfl | exact .inr rfl) (je_callC0 (cal__law_table_0 T) (hr.mono (by decide)) tk))
  refine (jss_cons ?_ ?_)
  · refine (js_if ?_ ?_ ?_)
    · refine (jt_not ?_)
      refine (jt_truth ?_ (fun _ => rfl))
      refine (je_callC (cal__law_exact_2 T 14) (hr.mono (by decide)) tk ?_)
      with_reducible refine ja_cons ?jh207 ?jt207 (hs := ?js207)
      case js207 => rfl
      case jh207 =>
        exact (je_callC0 (cal_rewriting_names_0 T) (hr.mono (by decide)) tk)
      refine (ja_cons ?_ ja_nil)
      refine (je_calltuple rfl T.n_tuple ?_)
      refine (ja_cons (JF.je ?_) ja_nil)
      refine (jf_comp (own := [("_law_entry", 5)]) (ts := [5]) rfl sc_law.nd ?_ (blkOk_by (N := N_law) (sc := (defScope s_law)) (by decide +kernel)) (by decide) (fun _ _ _ _ _ => ?_) (fun _ _ _ _ _ => jts_nil) (fun _ _ _ _ _ => ?_))
      · exact (ji_seq (je_var (pv 2)))
      · exact (jg_name (pg_name (i := 5) sc_law.nd rfl (by first | exact .inl rfl | exact .inr rfl)))
      exact (je_ixV (pv 5) je_int)
    · refine (jss_one ?_)
      exact (js_ret je_bl)
    exact jss_nil
  refine (jss_cons ?_ ?_)
  · first | with_reducible refine js_set (i := 3) (hN := ?_) (hi := ?_) (hx := ?_) (he := ?_) (hs := ?_) (hf := ?_) | refine js_set (i := 3) (hN := ?_) (hi := ?_) (hx := ?_) (he := ?_) (hs := ?_) (hf := ?_)
    · exact sc_law.nd
    · rfl
    · first | exact .inl rfl | exact .inr rfl
    · refine (je_callC (cal__law_take_2 T) (hr.mono (by decide)) tk ?_)
      exact (ja_refA (pv 1) (ja_cons je_int ja_nil))
    · rfl
    · first | exact .inl rfl | exact .inr rfl
  refine (jss_cons ?_ ?_)
  · refine (js_for (ts := [4]) po rfl ?_ ?_ ?_)
    · exact (ji_range1 rfl T.n_range je_int)
    · exact (jg_name (pg_name (i := 4) sc_law.nd rfl (by first | exact .inl rfl | exact .inr rfl)))
    refine (jss_cons ?_ ?_)
    · first | with_reducible refine js_set (i := 5) (hN := ?_) (hi := ?_) (hx := ?_) (he := ?_) (hs := ?_) (hf := ?_) | refine js_set (i := 5) (hN := ?_) (hi := ?_) (hx := ?_) (he := ?_) (hs := ?_) (hf := ?_)
      · exact sc_law.nd
      · rfl
      · first | exact .inl rfl | exact .inr rfl
      · refine (je_ixV (pv 2) ?_)
        refine (je_mod ?_ ?_)
        · refine (je_callint rfl T.n_int ?_)
          refine (ja_cons ?_ ja_nil)
          refine (je_add ?_ ?_)
          · exact (je_var (pv 3))
          exact (je_mul (je_var (pv 4)) je_int)
        exact je_int
      · rfl
      · first | exact .inl rfl | exact .inr rfl
    refine (jss_cons ?_ ?_)
    · refine (js_if ?_ ?_ ?_)
      · refine (JW.jt ?_)
        refine (jw_or ?_ (jw_or1 ?_))
        · refine (jt_not ?_)
          refine (jt_truth ?_ (fun _ => rfl))
          refine (je_callC (cal__law_exact_2 T 14) (hr.mono (by decide)) tk ?_)
          with_reducible refine ja_cons ?jh208 ?jt208 (hs := ?js208)
          case js208 => rfl
          case jh208 =>
            refine (je_callC (cal_verdict_of_1 T) (hr.mono (by decide)) tk ?_)
            refine (ja_cons ?_ ja_nil)
            exact (je_ixV (pv 5) je_int)
          refine (ja_cons ?_ ja_nil)
          exact (je_ixV (pv 5) je_int)
        refine (jt_not ?_)
        refine (jt_truth ?_ (fun _ => rfl))
        refine (je_callC (cal__law_exact_2 T 14) (hr.mono (by decide)) tk ?_)
        with_reducible refine ja_cons ?jh209 ?jt209 (hs := ?js209)
        case js209 => rfl
        case jh209 =>
          refine (je_callC (cal_letters_of_1 T) (hr.mono (by decide)) tk ?_)
          refine (ja_cons ?_ ja_nil)
          exact (je_ixV (pv 5) je_int)
        refine (ja_cons ?_ ja_nil)
        exact (je_ixV (pv 5) je_int)
      · refine (jss_one ?_)
        exact (js_ret je_bl)
      exact jss_nil
    refine (jss_cons ?_ ?_)
    · first | with_reducible refine js_set (i := 6) (hN := ?_) (hi := ?_) (hx := ?_) (he := ?_) (hs := ?_) (hf := ?_) | refine js_set (i := 6) (hN := ?_) (hi := ?_) (hx := ?_) (he := ?_) (hs := ?_) (hf := ?_)
      · exact sc_law.nd
      · rfl
      · first | exact .inl rfl | exact .inr rfl
      · refine (je_callC (cal__law_names_2 T) (hr.mono (by decide)) tk ?_)
        refine (ja_refA (pv 1) (ja_cons ?_ ja_nil))
        refine (je_add ?_ ?_)
        · exact je_int
        refine (je_callC (cal__law_take_2 T) (hr.mono (by decide)) tk ?_)
        exact (ja_refA (pv 1) (ja_cons je_int ja_nil))
      · rfl
      · first | exact .inl rfl | exact .inr rfl
    refine (jss_cons ?_ ?_)
    · first | with_reducible refine js_set (i := 7) (hN := ?_) (hi := ?_) (hx := ?_) (he := ?_) (hs := ?_) (hf := ?_) | refine js_set (i := 7) (hN := ?_) (hi := ?_) (hx := ?_) (he := ?_) (hs := ?_) (hf := ?_)
      · exact sc_law.nd
      · rfl
      · first | exact .inl rfl | exact .inr rfl
      · refine (je_callC (cal__law_letters_5 T) (hr.mono (by decide)) tk ?_)
        refine (ja_refA (pv 1) (ja_cons ?_ ?_))
        · exact (je_var (pv 6))
        with_reducible refine ja_cons ?jh210 ?jt210 (hs := ?js210)
        case js210 => rfl
        case jh210 =>
          exact (je_ixV (pv 5) je_int)
        with_reducible refine ja_cons ?jh211 ?jt211 (hs := ?js211)
        case js211 => rfl
        case jh211 =>
          exact je_int
        exact (ja_cons je_int ja_nil)
      · rfl
      · first | exact .inl rfl | exact .inr rfl
    refine (jss_cons ?_ ?_)
    · first | with_reducible refine js_set (i := 8) (hN := ?_) (hi := ?_) (hx := ?_) (he := ?_) (hs := ?_) (hf := ?_) | refine js_set (i := 8) (hN := ?_) (hi := ?_) (hx := ?_) (he := ?_) (hs := ?_) (hf := ?_)
      · exact sc_law.nd
      · rfl
      · first | exact .inl rfl | exact .inr rfl
      · refine (je_callC (cal__law_list_2 T) (hr.mono (by decide)) tk ?_)
        exact (ja_refA (pv 1) (ja_cons (je_var (pv 7)) ja_nil))
      · rfl
      · first | exact .inl rfl | exact .inr rfl
    refine (jss_cons ?_ ?_)
    · first | with_reducible refine js_set (i := 9) (hN := ?_) (hi := ?_) (hx := ?_) (he := ?_) (hs := ?_) (hf := ?_) | refine js_set (i := 9) (hN := ?_) (hi := ?_) (hx := ?_) (he := ?_) (hs := ?_) (hf := ?_)
      · exact sc_law.nd
      · rfl
      · first | exact .inl rfl | exact .inr rfl
      · first | with_reducible refine (je_tup ?_) | refine (je_tup ?_)
        with_reducible refine ja_cons ?jh212 ?jt212 (hs := ?js212)
        case js212 => rfl
        case jh212 =>
          refine (je_callC (cal__law_put_2 T 5) (hr.mono (by decide)) tk ?_)
          with_reducible refine ja_cons ?jh213 ?jt213 (hs := ?js213)
          case js213 => rfl
          case jh213 =>
            exact (je_ixV (pv 5) je_int)
          exact (ja_cons (je_var (pv 7)) ja_nil)
        refine (ja_cons ?_ ja_nil)
        refine (je_callC (cal__law_put_2 T 5) (hr.mono (by decide)) tk ?_)
        with_reducible refine ja_cons ?jh214 ?jt214 (hs := ?js214)
        case js214 => rfl
        case jh214 =>
          exact (je_ixV (pv 5) je_int)
        exact (ja_cons (je_var (pv 7)) ja_nil)
      · rfl
      · first | exact .inl rfl | exact .inr rfl
    refine (jss_cons ?_ ?_)
    · refine (js_if ?_ ?_ ?_)
      · refine (jt_not ?_)
        refine (jt_truth ?_ (fun _ => rfl))
        refine (je_callC (cal__law_exact_2 T 14) (hr.mono (by decide)) tk ?_)
        with_reducible refine ja_cons ?jh215 ?jt215 (hs := ?js215)
        case js215 => rfl
        case jh215 =>
          refine (je_callC (cal_rewriting_pair_2 T) (hr.mono (by decide)) tk ?_)
          with_reducible refine ja_cons ?jh216 ?jt216 (hs := ?js216)
          case js216 => rfl
          case jh216 =>
            exact (je_ixV (pv 5) je_int)
          exact (ja_cons (je_var (pv 8)) ja_nil)
        exact (ja_cons (je_var (pv 9)) ja_nil)
      · refine (jss_one ?_)
        exact (js_ret je_bl)
      exact jss_nil
    refine (jss_cons ?_ ?_)
    · first | with_reducible refine js_set (i := 10) (hN := ?_) (hi := ?_) (hx := ?_) (he := ?_) (hs := ?_) (hf := ?_) | refine js_set (i := 10) (hN := ?_) (hi := ?_) (hx := ?_) (he := ?_) (hs := ?_) (hf := ?_)
      · exact sc_law.nd
      · rfl
      · first | exact .inl rfl | exact .inr rfl
      · first | with_reducible refine (JF.je ?_) | refine (JF.je ?_)
        first | with_reducible refine (jf_lst ?_) | refine (jf_lst ?_)
        with_reducible refine ja_cons ?jh217 ?jt217 (hs := ?js217)
        case js217 => rfl
        case jh217 =>
          exact je_str
        with_reducible refine ja_cons ?jh218 ?jt218 (hs := ?js218)
        case js218 => rfl
        case jh218 =>
          refine (je_add ?_ ?_)
          · exact (je_ixV (pv 5) je_int)
          exact je_str
        with_reducible refine ja_cons ?jh219 ?jt219 (hs := ?js219)
        case js219 => rfl
        case jh219 =>
          refine (je_add ?_ ?_)
          · exact je_str
          exact (je_ixV (pv 5) je_int)
        with_reducible refine ja_cons ?jh220 ?jt220 (hs := ?js220)
        case js220 => rfl
        case jh220 =>
          refine (je_add ?_ ?_)
          · exact (je_ixV (pv 5) je_int)
          exact je_str
        with_reducible refine ja_cons ?jh221 ?jt221 (hs := ?js221)
        case js221 => rfl
        case jh221 =>
          exact je_non
        with_reducible refine ja_cons ?jh222 ?jt222 (hs := ?js222)
        case js222 => rfl
        case jh222 =>
          exact je_bl
        with_reducible refine ja_cons ?jh223 ?jt223 (hs := ?js223)
        case js223 => rfl
        case jh223 =>
          exact (je_var (pv 4))
        with_reducible refine ja_cons ?jh224 ?jt224 (hs := ?js224)
        case js224 => rfl
        case jh224 =>
          first | with_reducible refine (je_tup ?_) | refine (je_tup ?_)
          refine (ja_cons ?_ ja_nil)
          exact (je_ixV (pv 5) je_int)
        refine (ja_cons (JF.je ?_) ja_nil)
        first | with_reducible refine (jf_lst ?_) | refine (jf_lst ?_)
        refine (ja_cons ?_ ja_nil)
        exact (je_ixV (pv 5) je_int)
      · rfl
      · first | exact .inl rfl | exact .inr rfl
    refine (jss_cons ?_ ?_)
    · first | with_reducible refine js_set (i := 11) (hN := ?_) (hi := ?_) (hx := ?_) (he := ?_) (hs := ?_) (hf := ?_) | refine js_set (i := 11) (hN := ?_) (hi := ?_) (hx := ?_) (he := ?_) (hs := ?_) (hf := ?_)
      · exact sc_law.nd
      · rfl
      · first | exact .inl rfl | exact .inr rfl
      · refine (je_ixV (pv 10) ?_)
        refine (je_callC (cal__law_take_2 T) (hr.mono (by decide)) tk ?_)
        exact (ja_refA (pv 1) (ja_cons je_int ja_nil))
      · rfl
      · first | exact .inl rfl | exact .inr rfl
    refine (jss_cons ?_ ?_)
    · refine (js_if ?_ ?_ ?_)
      · refine (jt_cm (cr_ne (hu64 hr)) (JF.je ?_) (JF.je ?_))
        · refine (jf_comp (own := [("_law_way", 13)]) (ts := [13]) rfl sc_law.nd ?_ (blkOk_by (N := N_law) (sc := (defScope s_law)) (by decide +kernel)) (by decide) (fun _ _ _ _ _ => ?_) (fun _ _ _ _ _ => (jts_one ?_)) (fun _ _ _ _ _ => ?_))
          · exact (ji_range1 rfl T.n_range je_int)
          · exact (jg_name (pg_name (i := 13) sc_law.nd rfl (by first | exact .inl rfl | exact .inr rfl)))
          · refine (jt_cm (cr_ne (hu64 hr)) ?_ ?_)
            · refine (je_callC (cal__law_word_3 T) (hr.mono (by decide)) takes0 ?_)
              with_reducible refine ja_cons ?jh225 ?jt225 (hs := ?js225)
              case js225 => rfl
              case jh225 =>
                exact (je_var (pv 13))
              with_reducible refine ja_cons ?jh226 ?jt226 (hs := ?js226)
              case js226 => rfl
              case jh226 =>
                exact (je_var (pv 11))
              exact (ja_cons (je_var (pv 8)) ja_nil)
            exact je_str
          exact (je_var (pv 13))
        exact (jf_lst ja_nil)
      · refine (jss_one ?_)
        exact (js_ret je_bl)
      exact jss_nil
    refine (jss_cons ?_ ?_)
    · first | with_reducible refine js_set (i := 10) (hN := ?_) (hi := ?_) (hx := ?_) (he := ?_) (hs := ?_) (hf := ?_) | refine js_set (i := 10) (hN := ?_) (hi := ?_) (hx := ?_) (he := ?_) (hs := ?_) (hf := ?_)
      · exact sc_law.nd
      · rfl
      · first | exact .inl rfl | exact .inr rfl
      · first | with_reducible refine (JF.je ?_) | refine (JF.je ?_)
        first | with_reducible refine (jf_lst ?_) | refine (jf_lst ?_)
        with_reducible refine ja_cons ?jh227 ?jt227 (hs := ?js227)
        case js227 => rfl
        case jh227 =>
          exact (je_slice (je_var (pv 7)) (JO.some je_int) JO.none)
        with_reducible refine ja_cons ?jh228 ?jt228 (hs := ?js228)
        case js228 => rfl
        case jh228 =>
          refine (je_add ?_ (JF.je ?_))
          · exact (je_var (pv 7))
          first | with_reducible refine (jf_lst ?_) | refine (jf_lst ?_)
          refine (ja_cons ?_ ja_nil)
          exact (je_ixV (pv 7) je_int)
        with_reducible refine ja_cons ?jh229 ?jt229 (hs := ?js229)
        case js229 => rfl
        case jh229 =>
          exact je_non
        with_reducible refine ja_cons ?jh230 ?jt230 (hs := ?js230)
        case js230 => rfl
        case jh230 =>
          refine (je_slice ?_ JO.none (JO.some ?_))
          · exact je_str
          exact (je_ixV (pv 5) je_int)
        with_reducible refine ja_cons ?jh231 ?jt231 (hs := ?js231)
        case js231 => rfl
        case jh231 =>
          exact (je_ixV (pv 5) je_int)
        refine (ja_cons (JF.je ?_) ?_)
        · exact jf_dict0
        refine (ja_cons ?_ ja_nil)
        refine (je_calltuple rfl T.n_tuple ?_)
        refine (ja_cons ?_ ja_nil)
        refine (je_slice ?_ JO.none (JO.some ?_))
        · exact (je_var (pv 7))
        exact (je_neg je_int)
      · rfl
      · first | exact .inl rfl | exact .inr rfl
    refine (jss_cons ?_ ?_)
    · first | with_reducible refine js_set (i := 12) (hN := ?_) (hi := ?_) (hx := ?_) (he := ?_) (hs := ?_) (hf := ?_) | refine js_set (i := 12) (hN := ?_) (hi := ?_) (hx := ?_) (he := ?_) (hs := ?_) (hf := ?_)
      · exact sc_law.nd
      · rfl
      · first | exact .inl rfl | exact .inr rfl
      · refine (je_ixV (pv 10) ?_)
        refine (je_callC (cal__law_take_2 T) (hr.mono (by decide)) tk ?_)
        exact (ja_refA (pv 1) (ja_cons je_int ja_nil))
      · rfl
      · first | exact .inl rfl | exact .inr rfl
    refine (jss_cons ?_ ?_)
    · refine (js_if ?_ ?_ ?_)
      · refine (JW.jt ?_)
        refine (jw_or ?_ (jw_or1 ?_))
        · refine (jt_cm (cr_ne (hu64 hr)) ?_ ?_)
          · refine (je_callC (cal__law_word_3 T) (hr.mono (by decide)) tk ?_)
            with_reducible refine ja_cons ?jh232 ?jt232 (hs := ?js232)
            case js232 => rfl
            case jh232 =>
              exact je_int
            with_reducible refine ja_cons ?jh233 ?jt233 (hs := ?js233)
            case js233 => rfl
            case jh233 =>
              exact (je_ixV (pv 5) je_int)
            exact (ja_cons (je_var (pv 12)) ja_nil)
          exact je_str
        refine (jt_cm (cr_ne (hu64 hr)) ?_ ?_)
        · refine (je_callC (cal__law_word_3 T) (hr.mono (by decide)) tk ?_)
          with_reducible refine ja_cons ?jh234 ?jt234 (hs := ?js234)
          case js234 => rfl
          case jh234 =>
            exact je_int
          with_reducible refine ja_cons ?jh235 ?jt235 (hs := ?js235)
          case js235 => rfl
          case jh235 =>
            exact (je_var (pv 11))
          exact (ja_cons (je_var (pv 12)) ja_nil)
        exact je_str
      · refine (jss_one ?_)
        exact (js_ret je_bl)
      exact jss_nil
    refine (jss_cons ?_ ?_)
    · refine (js_if ?_ ?_ ?_)
      · refine (JW.jt ?_)
        refine (jw_or ?_ (jw_or1 ?_))
        · refine (jt_cm (cr_ne (hu64 hr)) ?_ ?_)
          · refine (je_callC (cal__law_word_3 T) (hr.mono (by decide)) tk ?_)
            with_reducible refine ja_cons ?jh236 ?jt236 (hs := ?js236)
            case js236 => rfl
            case jh236 =>
              exact je_int
            with_reducible refine ja_cons ?jh237 ?jt237 (hs := ?js237)
            case js237 => rfl
            case jh237 =>
              exact (je_ixV (pv 5) je_int)
            exact (ja_cons (je_var (pv 8)) ja_nil)
          exact je_str
        refine (jt_not ?_)
        refine (jt_truth ?_ (fun _ => rfl))
        refine (je_callC (cal__law_exact_2 T 14) (hr.mono (by decide)) tk ?_)
        with_reducible refine ja_cons ?jh238 ?jt238 (hs := ?js238)
        case js238 => rfl
        case jh238 =>
          refine (je_calltuple rfl T.n_tuple ?_)
          exact (ja_cons (je_var (pv 8)) ja_nil)
        refine (ja_cons ?_ ja_nil)
        refine (je_calltuple rfl T.n_tuple ?_)
        exact (ja_cons (je_var (pv 7)) ja_nil)
      · refine (jss_one ?_)
        exact (js_ret je_bl)
      exact jss_nil
    refine (jss_one ?_)
    refine (js_if ?_ ?_ ?_)
    · refine (jt_not ?_)
      refine (jt_truth ?_ (fun _ => rfl))
      refine (je_callC (cal__law_exact_2 T 14) (hr.mono (by decide)) tk ?_)
      with_reducible refine ja_cons ?jh239 ?jt239 (hs := ?js239)
      case js239 => rfl
      case jh239 =>
        refine (je_callC (cal_rewriting_pair_2 T) (hr.mono (by decide)) tk ?_)
        with_reducible refine ja_cons ?jh240 ?jt240 (hs := ?js240)
        case js240 => rfl
        case jh240 =>
          exact (je_ixV (pv 5) je_int)
        exact (ja_cons (je_var (pv 8)) ja_nil)
      exact (ja_cons (je_var (pv 9)) ja_nil)
    · refine (jss_one ?_)
      exact (js_ret je_bl)
    exact jss_nil
  refine (jss_one ?_)
  exact (js_ret je_bl)
end

end LW

set_option maxRecDepth 100000
set_option maxHeartbeats 2000000
namespace LW
open PySem PySem.Spec PyProof.Rows L2 DL
theorem mixed_ev (n t : Int) (hn : 0 ≤ n ∧ n < 2147483648) (ht : 0 ≤ t ∧ t ≤ 63) : ∃ r, fn__law_mixed [.int n, .int t] = .ret (.int r) [] ∧ 0 ≤ r ∧ r < 2147483648 := by
  show ∃ r, toFO [false, false] (F__law_mixed [.val (.int n), .val (.int t), .un, .un]) = .ret (.int r) [] ∧ 0 ≤ r ∧ r < 2147483648
  have c1 : cMul n 48271 = true := mul_ok (by omega) (by decide)
  have c2 : cMul t 7919 = true := mul_ok (by omega) (by decide)
  have c5 : cMul t 92821 = true := mul_ok (by omega) (by decide)
  generalize hA : (n * 48271 + t * 7919 + 30011) % 2147483399 = A
  have hA2 : 0 ≤ A ∧ A < 2147483399 := by omega
  have c3 : cMul A A = true := mul_ok (by omega) (by omega)
  generalize hB : (A * A + t * 92821 + A / 131) % 2147483629 = B
  have hB2 : 0 ≤ B ∧ B < 2147483629 := by
    rw [← hB]
    exact ⟨Int.emod_nonneg _ (by decide), Int.emod_lt_of_pos _ (by decide)⟩
  have c4 : cMul B 69621 = true := mul_ok (by omega) (by decide)
  have p1 : ∀ i, cPos i 2147483399 = true := fun i => rfl
  have p2 : ∀ i, cPos i 2147483629 = true := fun i => rfl
  have p3 : ∀ i, cPos i 2147483587 = true := fun i => rfl
  have d1 : ∀ i, cDiv i 131 = true := fun i => div_ok (by decide) (by decide)
  have d2 : ∀ i, cDiv i 13 = true := fun i => div_ok (by decide) (by decide)
  have d3 : ∀ i, cDiv i 32 = true := fun i => div_ok (by decide) (by decide)
  simp -implicitDefEqProofs only [F__law_mixed, a_seq, a_expr, a_ret, a_retO, a_set, a_setO, a_if, a_unp, a_for, a_nil, a_retN, a_then_0, a_then_1, a_then_2, a_then_3, a_sK_0, a_sK_1, a_ifS_0, a_ifS_1, a_ifS_2, a_k_0, a_k_1, a_k_2, a_k_3, a_k_4, a_k_5, a_k_6, a_setV, a_setOd, a_setVK_0, a_setVK_1, a_setVK_2, a_setVK_3, a_setVK_4, a_setVK_5, a_c, a_var, a_varK_0, a_varK_1, a_bin, a_binK_0, a_binK_1, a_binK_2, a_binK_3, a_oE_0, a_oE_1, a_un, a_unK_0, a_unK_1, a_unK_2, a_unK_3, a_test, a_tru, a_not, a_asB_0, a_asB_1, a_asB_2, a_asB_3, a_lst_0, a_lst_1, a_and, a_or, a_andK_0, a_andK_1, a_andK_2, a_andK_3, a_andK_4, a_andK_5, a_dIf, a_tand, a_tor, a_tnot, a_ifK_0, a_ifK_1, a_ifK_2, a_ifK_3, a_ifK_4, a_cons, a_consK_0, a_consK_1, a_consK_2, a_consK_3, a_consK_4, a_refA, a_refK_0, a_refK_1, a_refK_2, a_cb, a_tup, a_dLst, a_vals0, a_vals1, a_vals2, a_vals3, a_vals4, call_eq, callO_eq, a_call1, a_call2, a_call3, a_call4, a_rf0, a_rf1, a_rf2, a_rfK_0, a_rfK_1, a_rfK_2, a_end0_0, a_end0_1, a_end0_2, a_end0_3, a_end1, a_put1_0, a_put1_1, a_look, a_lkK_0, a_lkK_1, a_lkK_2, a_ixV, a_ixK_0, a_ixK_1, a_ixK_2, a_lenV, a_truV, a_len_0, a_len_1, a_len_2, a_len_3, a_len_4, a_it, a_rg1, a_rgL, a_en, a_zp, a_itK_0, a_itK_1, a_itK_2, a_itE_0, a_itE_1, a_comp, a_compK_0, a_compK_1, a_isi, a_isO, a_gI_0, a_gI_1, a_gI_2, List.getElem?_cons_zero, List.getElem?_cons_succ, List.set_cons_zero, List.set_cons_succ, Option.bind_some, Option.map_some, f_nil, f_cons, f_some, f_nx, f_ct, f_bk, f_rt, f_ex, a_putV, a_pv0, a_pv1, a_put, a_sp0, a_sp1, a_sp2, a_sp3, a_sp4, a_app, a_sa1, a_sa2, a_aug, a_au1, a_au2, a_au3, gEq_int, gNe_int, ct_rf, ct_own, if_true, if_false, Bool.false_eq_true, a_try, a_tryK_0, a_tryK_1, a_tryK_2, a_tryH_0, a_tryH_1, a_tryK2_0, a_tryK2_1, a_hdS_0, a_hdS_1, a_compX, a_compKX_0, a_fld, a_meth, a_prop, a_propK, a_propE, a_make, a_makeK, a_makeE, a_putF, a_pfK, a_lkv, a_lkvK, a_dct1, a_dct1K, a_dct1K2, a_dct2, a_key, a_putK, a_pk0, a_pk1, a_pk2, a_rg2, a_rg2K, a_rg2K2, a_oL, a_raiseF, a_xr1, a_xr2, a_rgDn, a_xf, a_sortK, a_listK, a_lsK, a_tix, a_tixK, a_isX, a_isxK, a_binV, a_get2, a_g2K, a_ixk, a_ixkK, a_ixkE, int1, c1, c2, c3, c4, c5, p1, p2, p3, d1, d2, d3, hA, hB]
  refine ⟨_, rfl, ?_, ?_⟩ <;> omega
def hd (cs : List Int) (p r t : Int) : D := .lst [.lst (cs.map .int), .int p, .int r, .int t]
structure HandI (cs : List Int) (p r t : Int) : Prop where
  pos : ∀ c ∈ cs, 0 ≤ c
  p0 : 0 ≤ p
  p1 : p ≤ cs.length
  r0 : 0 ≤ r
  t0 : 0 ≤ t
  t1 : t < 2147483549
  l : cs.length ≤ 63
def Hand (d : D) : Prop := ∃ cs p r t, d = hd cs p r t ∧ HandI cs p r t
theorem hand_turn (ns k : List Int) (tot v : Int) (s3 : Sl) (h3 : s3 = .un ∨ ∃ d, s3 = .val d) (h0 : 0 ≤ tot) (h1 : tot < 2147483549) (hl : k.length ≤ 63) :
    ∃ δ1, setV 3 (.int v) [.val (.scr ns), .val (.int tot), .own (.lst (k.map D.int)), s3] = some δ1 ∧
      B__law_hand_0 δ1 = .nx [.val (.scr ns), .val (.int ((tot * 1721 + v) % 2147483549)), .own (.lst ((k ++ [if v < 0 then -v else v]).map D.int)), .val (.int v)] := by
  have c1 : cMul tot 1721 = true := mul_ok (by omega) (by decide)
  have p1 : ∀ i, cPos i 2147483549 = true := fun i => rfl
  have l1 : (k.map D.int).length < sizeLine := by rw [List.length_map]; exact app_lt hl
  have l2 : ∀ v δ, saK3 2 v δ (some (.lst (k.map D.int))) = oNx (putV 2 (.lst ((k.map D.int) ++ [v])) δ) := fun v δ => a_sa3 _ _ _ _ l1
  refine ⟨[.val (.scr ns), .val (.int tot), .own (.lst (k.map D.int)), .val (.int v)], ?_, ?_⟩
  · rcases h3 with rfl | ⟨d, rfl⟩ <;> rfl
  · simp -implicitDefEqProofs only [B__law_hand_0, a_seq, a_expr, a_ret, a_retO, a_set, a_setO, a_if, a_unp, a_for, a_nil, a_retN, a_then_0, a_then_1, a_then_2, a_then_3, a_sK_0, a_sK_1, a_ifS_0, a_ifS_1, a_ifS_2, a_k_0, a_k_1, a_k_2, a_k_3, a_k_4, a_k_5, a_k_6, a_setV, a_setOd, a_setVK_0, a_setVK_1, a_setVK_2, a_setVK_3, a_setVK_4, a_setVK_5, a_c, a_var, a_varK_0, a_varK_1, a_bin, a_binK_0, a_binK_1, a_binK_2, a_binK_3, a_oE_0, a_oE_1, a_un, a_unK_0, a_unK_1, a_unK_2, a_unK_3, a_test, a_tru, a_not, a_asB_0, a_asB_1, a_asB_2, a_asB_3, a_lst_0, a_lst_1, a_and, a_or, a_andK_0, a_andK_1, a_andK_2, a_andK_3, a_andK_4, a_andK_5, a_dIf, a_tand, a_tor, a_tnot, a_ifK_0, a_ifK_1, a_ifK_2, a_ifK_3, a_ifK_4, a_cons, a_consK_0, a_consK_1, a_consK_2, a_consK_3, a_consK_4, a_refA, a_refK_0, a_refK_1, a_refK_2, a_cb, a_tup, a_dLst, a_vals0, a_vals1, a_vals2, a_vals3, a_vals4, call_eq, callO_eq, a_call1, a_call2, a_call3, a_call4, a_rf0, a_rf1, a_rf2, a_rfK_0, a_rfK_1, a_rfK_2, a_end0_0, a_end0_1, a_end0_2, a_end0_3, a_end1, a_put1_0, a_put1_1, a_look, a_lkK_0, a_lkK_1, a_lkK_2, a_ixV, a_ixK_0, a_ixK_1, a_ixK_2, a_lenV, a_truV, a_len_0, a_len_1, a_len_2, a_len_3, a_len_4, a_it, a_rg1, a_rgL, a_en, a_zp, a_itK_0, a_itK_1, a_itK_2, a_itE_0, a_itE_1, a_comp, a_compK_0, a_compK_1, a_isi, a_isO, a_gI_0, a_gI_1, a_gI_2, List.getElem?_cons_zero, List.getElem?_cons_succ, List.set_cons_zero, List.set_cons_succ, Option.bind_some, Option.map_some, f_nil, f_cons, f_some, f_nx, f_ct, f_bk, f_rt, f_ex, a_putV, a_pv0, a_pv1, a_put, a_sp0, a_sp1, a_sp2, a_sp3, a_sp4, a_app, a_sa1, a_sa2, a_aug, a_au1, a_au2, a_au3, gEq_int, gNe_int, ct_rf, ct_own, if_true, if_false, Bool.false_eq_true, a_try, a_tryK_0, a_tryK_1, a_tryK_2, a_tryH_0, a_tryH_1, a_tryK2_0, a_tryK2_1, a_hdS_0, a_hdS_1, a_compX, a_compKX_0, a_fld, a_meth, a_prop, a_propK, a_propE, a_make, a_makeK, a_makeE, a_putF, a_pfK, a_lkv, a_lkvK, a_dct1, a_dct1K, a_dct1K2, a_dct2, a_key, a_putK, a_pk0, a_pk1, a_pk2, a_rg2, a_rg2K, a_rg2K2, a_oL, a_raiseF, a_xr1, a_xr2, a_rgDn, a_xf, a_sortK, a_listK, a_lsK, a_tix, a_tixK, a_isX, a_isxK, a_binV, a_get2, a_g2K, a_ixk, a_ixkK, a_ixkE, int1, abs1, c1, p1, l2, List.map_append, List.map_cons, List.map_nil]
def HandL (ns : List Int) (pre : List D) (δ : DEnv) : Prop := ∃ (k : List Int) (tot : Int) (s3 : Sl), pre = k.map D.int ∧ 0 ≤ tot ∧ tot < 2147483549 ∧ (s3 = .un ∨ ∃ d, s3 = .val d) ∧ δ = [.val (.scr ns), .val (.int tot), .own (.lst ((k.map fun i => if i < 0 then -i else i).map D.int)), s3]
theorem hand_step (ns : List Int) (h : ns.length ≤ 63) (pre : List D) (d : D) (r : List D) (δ : DEnv) (eall : ns.map D.int = pre ++ d :: r) (hI : HandL ns pre δ) : ∃ δ1 δ2, setV 3 d δ = some δ1 ∧ B__law_hand_0 δ1 = .nx δ2 ∧ HandL ns (pre ++ [d]) δ2 := by
  obtain ⟨k, tot, s3, rfl, h0, h1, h3, rfl⟩ := hI
  have hlen : k.length ≤ 63 := by
    have := congrArg List.length eall
    simp only [List.length_map, List.length_append, List.length_cons] at this
    omega
  have hd : d ∈ ns.map D.int := by rw [eall]; simp
  obtain ⟨v, _, rfl⟩ := List.mem_map.mp hd
  obtain ⟨δ1, e1, e2⟩ := hand_turn ns (k.map fun i => if i < 0 then -i else i) tot v s3 h3 h0 h1 (by simpa using hlen)
  refine ⟨δ1, _, e1, e2, k ++ [v], (tot * 1721 + v) % 2147483549, .val (.int v), by simp, Int.emod_nonneg _ (by decide), Int.emod_lt_of_pos _ (by decide), .inr ⟨_, rfl⟩, ?_⟩
  simp
theorem hand_ev (ns : List Int) (h : ns.length ≤ 63) : ∃ d, fn__law_hand [.scr ns] = .new d [] ∧ Hand d := by
  show ∃ d, toFO [false] (F__law_hand [.val (.scr ns), .un, .un, .un]) = .new d [] ∧ Hand d
  have key := for_pos (A := setV 3) (f := B__law_hand_0) (HandL ns) (ns.map D.int) (ns.map D.int) [] [.val (.scr ns), .val (.int ((ns.length : Int) + 41)), .own (.lst []), .un] rfl ⟨[], _, _, rfl, by omega, by omega, .inl rfl, rfl⟩ (hand_step ns h)
  obtain ⟨δ', e, k, tot, s3, ek, h0, h1, h3, rfl⟩ := key
  have ek' := ints_inj ek
  subst ek'
  have q0 : gLen [.scr k] = some (.int (k.length : Nat)) := rfl
  simp -implicitDefEqProofs only [F__law_hand, a_seq, a_expr, a_ret, a_retO, a_set, a_setO, a_if, a_unp, a_for, a_nil, a_retN, a_then_0, a_then_1, a_then_2, a_then_3, a_sK_0, a_sK_1, a_ifS_0, a_ifS_1, a_ifS_2, a_k_0, a_k_1, a_k_2, a_k_3, a_k_4, a_k_5, a_k_6, a_setV, a_setOd, a_setVK_0, a_setVK_1, a_setVK_2, a_setVK_3, a_setVK_4, a_setVK_5, a_c, a_var, a_varK_0, a_varK_1, a_bin, a_binK_0, a_binK_1, a_binK_2, a_binK_3, a_oE_0, a_oE_1, a_un, a_unK_0, a_unK_1, a_unK_2, a_unK_3, a_test, a_tru, a_not, a_asB_0, a_asB_1, a_asB_2, a_asB_3, a_lst_0, a_lst_1, a_and, a_or, a_andK_0, a_andK_1, a_andK_2, a_andK_3, a_andK_4, a_andK_5, a_dIf, a_tand, a_tor, a_tnot, a_ifK_0, a_ifK_1, a_ifK_2, a_ifK_3, a_ifK_4, a_cons, a_consK_0, a_consK_1, a_consK_2, a_consK_3, a_consK_4, a_refA, a_refK_0, a_refK_1, a_refK_2, a_cb, a_tup, a_dLst, a_vals0, a_vals1, a_vals2, a_vals3, a_vals4, call_eq, callO_eq, a_call1, a_call2, a_call3, a_call4, a_rf0, a_rf1, a_rf2, a_rfK_0, a_rfK_1, a_rfK_2, a_end0_0, a_end0_1, a_end0_2, a_end0_3, a_end1, a_put1_0, a_put1_1, a_look, a_lkK_0, a_lkK_1, a_lkK_2, a_ixV, a_ixK_0, a_ixK_1, a_ixK_2, a_lenV, a_truV, a_len_0, a_len_1, a_len_2, a_len_3, a_len_4, a_it, a_rg1, a_rgL, a_en, a_zp, a_itK_0, a_itK_1, a_itK_2, a_itE_0, a_itE_1, a_comp, a_compK_0, a_compK_1, a_isi, a_isO, a_gI_0, a_gI_1, a_gI_2, List.getElem?_cons_zero, List.getElem?_cons_succ, List.set_cons_zero, List.set_cons_succ, Option.bind_some, Option.map_some, f_nil, f_cons, f_some, f_nx, f_ct, f_bk, f_rt, f_ex, a_putV, a_pv0, a_pv1, a_put, a_sp0, a_sp1, a_sp2, a_sp3, a_sp4, a_app, a_sa1, a_sa2, a_aug, a_au1, a_au2, a_au3, gEq_int, gNe_int, ct_rf, ct_own, if_true, if_false, Bool.false_eq_true, a_try, a_tryK_0, a_tryK_1, a_tryK_2, a_tryH_0, a_tryH_1, a_tryK2_0, a_tryK2_1, a_hdS_0, a_hdS_1, a_compX, a_compKX_0, a_fld, a_meth, a_prop, a_propK, a_propE, a_make, a_makeK, a_makeE, a_putF, a_pfK, a_lkv, a_lkvK, a_dct1, a_dct1K, a_dct1K2, a_dct2, a_key, a_putK, a_pk0, a_pk1, a_pk2, a_rg2, a_rg2K, a_rg2K2, a_oL, a_raiseF, a_xr1, a_xr2, a_rgDn, a_xf, a_sortK, a_listK, a_lsK, a_tix, a_tixK, a_isX, a_isxK, a_binV, a_get2, a_g2K, a_ixk, a_ixkK, a_ixkE, q0, gLst0, e, gLst4]
  refine ⟨_, rfl, _, 0, 0, tot, rfl, ?_, Int.le_refl _, by omega, Int.le_refl _, h0, h1, by simpa using h⟩
  intro c hc
  obtain ⟨i, _, rfl⟩ := List.mem_map.mp hc
  split <;> omega
theorem take_ev (d : D) (m : Int) (h : Hand d) (hm : 0 < m) (hm2 : m < 4611686018427387904) : ∃ r d', fn__law_take [d, .int m] = .ret (.int r) [d'] ∧ Hand d' ∧ 0 ≤ r ∧ r < m := by
  obtain ⟨cs, p, r, t, rfl, H⟩ := h
  show ∃ r' d', toFO [true, false] (F__law_take [.rf (hd cs p r t), .val (.int m), .un, .un]) = .ret (.int r') [d'] ∧ Hand d' ∧ 0 ≤ r' ∧ r' < m
  have pm : ∀ i, cPos i m = true := fun i => pos_ok hm
  have dm : ∀ i, cDiv i m = true := fun i => div_ok hm (by omega)
  have p1 : ∀ i, cPos i 2147483399 = true := fun i => rfl
  have p2 : ∀ i, cPos i 2147483549 = true := fun i => rfl
  have lt_m : ∀ i : Int, 0 ≤ i % m ∧ i % m < m := fun i => ⟨Int.emod_nonneg _ (by omega), Int.emod_lt_of_pos _ hm⟩
  have hl := H.l
  have h0 := H.p0
  have h1 := H.p1
  by_cases hA : r = 0 ∧ p < cs.length
  · obtain ⟨rfl, hp⟩ := hA
    obtain ⟨c, ec, hc⟩ := at_int cs p h0 hp
    have c0 := H.pos c hc
    have e1 : ((0 : Int) == 0) = true := rfl
    have e2 : decide (p < (((cs.map D.int).length : Nat) : Int)) = true := decide_eq_true (by rw [List.length_map]; exact hp)
    by_cases hb : c < 1000000000000000000
    · have e4 : decide (c < 1000000000000000000) = true := decide_eq_true hb
      obtain ⟨q, eq, q0, q1⟩ := mixed_ev (c % 2147483399) (p + 1) ⟨by omega, by omega⟩ ⟨by omega, by omega⟩
      simp -implicitDefEqProofs only [F__law_take, a_seq, a_expr, a_ret, a_retO, a_set, a_setO, a_if, a_unp, a_for, a_nil, a_retN, a_then_0, a_then_1, a_then_2, a_then_3, a_sK_0, a_sK_1, a_ifS_0, a_ifS_1, a_ifS_2, a_k_0, a_k_1, a_k_2, a_k_3, a_k_4, a_k_5, a_k_6, a_setV, a_setOd, a_setVK_0, a_setVK_1, a_setVK_2, a_setVK_3, a_setVK_4, a_setVK_5, a_c, a_var, a_varK_0, a_varK_1, a_bin, a_binK_0, a_binK_1, a_binK_2, a_binK_3, a_oE_0, a_oE_1, a_un, a_unK_0, a_unK_1, a_unK_2, a_unK_3, a_test, a_tru, a_not, a_asB_0, a_asB_1, a_asB_2, a_asB_3, a_lst_0, a_lst_1, a_and, a_or, a_andK_0, a_andK_1, a_andK_2, a_andK_3, a_andK_4, a_andK_5, a_dIf, a_tand, a_tor, a_tnot, a_ifK_0, a_ifK_1, a_ifK_2, a_ifK_3, a_ifK_4, a_cons, a_consK_0, a_consK_1, a_consK_2, a_consK_3, a_consK_4, a_refA, a_refK_0, a_refK_1, a_refK_2, a_cb, a_tup, a_dLst, a_vals0, a_vals1, a_vals2, a_vals3, a_vals4, call_eq, callO_eq, a_call1, a_call2, a_call3, a_call4, a_rf0, a_rf1, a_rf2, a_rfK_0, a_rfK_1, a_rfK_2, a_end0_0, a_end0_1, a_end0_2, a_end0_3, a_end1, a_put1_0, a_put1_1, a_look, a_lkK_0, a_lkK_1, a_lkK_2, a_ixV, a_ixK_0, a_ixK_1, a_ixK_2, a_lenV, a_truV, a_len_0, a_len_1, a_len_2, a_len_3, a_len_4, a_it, a_rg1, a_rgL, a_en, a_zp, a_itK_0, a_itK_1, a_itK_2, a_itE_0, a_itE_1, a_comp, a_compK_0, a_compK_1, a_isi, a_isO, a_gI_0, a_gI_1, a_gI_2, List.getElem?_cons_zero, List.getElem?_cons_succ, List.set_cons_zero, List.set_cons_succ, Option.bind_some, Option.map_some, f_nil, f_cons, f_some, f_nx, f_ct, f_bk, f_rt, f_ex, a_putV, a_pv0, a_pv1, a_put, a_sp0, a_sp1, a_sp2, a_sp3, a_sp4, a_app, a_sa1, a_sa2, a_aug, a_au1, a_au2, a_au3, gEq_int, gNe_int, ct_rf, ct_own, if_true, if_false, Bool.false_eq_true, a_try, a_tryK_0, a_tryK_1, a_tryK_2, a_tryH_0, a_tryH_1, a_tryK2_0, a_tryK2_1, a_hdS_0, a_hdS_1, a_compX, a_compKX_0, a_fld, a_meth, a_prop, a_propK, a_propE, a_make, a_makeK, a_makeE, a_putF, a_pfK, a_lkv, a_lkvK, a_dct1, a_dct1K, a_dct1K2, a_dct2, a_key, a_putK, a_pk0, a_pk1, a_pk2, a_rg2, a_rg2K, a_rg2K2, a_oL, a_raiseF, a_xr1, a_xr2, a_rgDn, a_xf, a_sortK, a_listK, a_lsK, a_tix, a_tixK, a_isX, a_isxK, a_binV, a_get2, a_g2K, a_ixk, a_ixkK, a_ixkE, hd, ix0, ix1, ix2, ix3', n4, x1, x2, x3, len_l, int1, big, bigv, ec, e1, e2, e4, eq, pm, p1]
      exact ⟨_, _, rfl, ⟨cs, p + 1, 0, t, rfl, ⟨H.pos, by omega, by omega, by omega, H.t0, H.t1, hl⟩⟩, lt_m q⟩
    · have e4 : decide (c < 1000000000000000000) = false := decide_eq_false hb
      have e5 : decide (0 < c) = true := decide_eq_true (by omega)
      simp -implicitDefEqProofs only [F__law_take, a_seq, a_expr, a_ret, a_retO, a_set, a_setO, a_if, a_unp, a_for, a_nil, a_retN, a_then_0, a_then_1, a_then_2, a_then_3, a_sK_0, a_sK_1, a_ifS_0, a_ifS_1, a_ifS_2, a_k_0, a_k_1, a_k_2, a_k_3, a_k_4, a_k_5, a_k_6, a_setV, a_setOd, a_setVK_0, a_setVK_1, a_setVK_2, a_setVK_3, a_setVK_4, a_setVK_5, a_c, a_var, a_varK_0, a_varK_1, a_bin, a_binK_0, a_binK_1, a_binK_2, a_binK_3, a_oE_0, a_oE_1, a_un, a_unK_0, a_unK_1, a_unK_2, a_unK_3, a_test, a_tru, a_not, a_asB_0, a_asB_1, a_asB_2, a_asB_3, a_lst_0, a_lst_1, a_and, a_or, a_andK_0, a_andK_1, a_andK_2, a_andK_3, a_andK_4, a_andK_5, a_dIf, a_tand, a_tor, a_tnot, a_ifK_0, a_ifK_1, a_ifK_2, a_ifK_3, a_ifK_4, a_cons, a_consK_0, a_consK_1, a_consK_2, a_consK_3, a_consK_4, a_refA, a_refK_0, a_refK_1, a_refK_2, a_cb, a_tup, a_dLst, a_vals0, a_vals1, a_vals2, a_vals3, a_vals4, call_eq, callO_eq, a_call1, a_call2, a_call3, a_call4, a_rf0, a_rf1, a_rf2, a_rfK_0, a_rfK_1, a_rfK_2, a_end0_0, a_end0_1, a_end0_2, a_end0_3, a_end1, a_put1_0, a_put1_1, a_look, a_lkK_0, a_lkK_1, a_lkK_2, a_ixV, a_ixK_0, a_ixK_1, a_ixK_2, a_lenV, a_truV, a_len_0, a_len_1, a_len_2, a_len_3, a_len_4, a_it, a_rg1, a_rgL, a_en, a_zp, a_itK_0, a_itK_1, a_itK_2, a_itE_0, a_itE_1, a_comp, a_compK_0, a_compK_1, a_isi, a_isO, a_gI_0, a_gI_1, a_gI_2, List.getElem?_cons_zero, List.getElem?_cons_succ, List.set_cons_zero, List.set_cons_succ, Option.bind_some, Option.map_some, f_nil, f_cons, f_some, f_nx, f_ct, f_bk, f_rt, f_ex, a_putV, a_pv0, a_pv1, a_put, a_sp0, a_sp1, a_sp2, a_sp3, a_sp4, a_app, a_sa1, a_sa2, a_aug, a_au1, a_au2, a_au3, gEq_int, gNe_int, ct_rf, ct_own, if_true, if_false, Bool.false_eq_true, a_try, a_tryK_0, a_tryK_1, a_tryK_2, a_tryH_0, a_tryH_1, a_tryK2_0, a_tryK2_1, a_hdS_0, a_hdS_1, a_compX, a_compKX_0, a_fld, a_meth, a_prop, a_propK, a_propE, a_make, a_makeK, a_makeE, a_putF, a_pfK, a_lkv, a_lkvK, a_dct1, a_dct1K, a_dct1K2, a_dct2, a_key, a_putK, a_pk0, a_pk1, a_pk2, a_rg2, a_rg2K, a_rg2K2, a_oL, a_raiseF, a_xr1, a_xr2, a_rgDn, a_xf, a_sortK, a_listK, a_lsK, a_tix, a_tixK, a_isX, a_isxK, a_binV, a_get2, a_g2K, a_ixk, a_ixkK, a_ixkE, hd, ix0, ix1, ix2, ix3', n4, x1, x2, x3, len_l, int1, big, bigv, ec, e1, e2, e4, e5, pm, dm]
      exact ⟨_, _, rfl, ⟨cs, p + 1, c / m, t, rfl, ⟨H.pos, by omega, by omega, Int.ediv_nonneg c0 (by omega), H.t0, H.t1, hl⟩⟩, lt_m c⟩
  · have hskip : ((r == 0) = false) ∨ ((r == 0) = true ∧ decide (p < (((cs.map D.int).length : Nat) : Int)) = false) := by
      by_cases hr : r = 0
      · exact .inr ⟨by rw [hr]; rfl, decide_eq_false (by rw [List.length_map]; exact fun z => hA ⟨hr, z⟩)⟩
      · exact .inl (by simpa using hr)
    have r0 := H.r0
    by_cases hr : 0 < r
    · have e5 : decide (0 < r) = true := decide_eq_true hr
      rcases hskip with e1 | ⟨e1, e2⟩
      · simp -implicitDefEqProofs only [F__law_take, a_seq, a_expr, a_ret, a_retO, a_set, a_setO, a_if, a_unp, a_for, a_nil, a_retN, a_then_0, a_then_1, a_then_2, a_then_3, a_sK_0, a_sK_1, a_ifS_0, a_ifS_1, a_ifS_2, a_k_0, a_k_1, a_k_2, a_k_3, a_k_4, a_k_5, a_k_6, a_setV, a_setOd, a_setVK_0, a_setVK_1, a_setVK_2, a_setVK_3, a_setVK_4, a_setVK_5, a_c, a_var, a_varK_0, a_varK_1, a_bin, a_binK_0, a_binK_1, a_binK_2, a_binK_3, a_oE_0, a_oE_1, a_un, a_unK_0, a_unK_1, a_unK_2, a_unK_3, a_test, a_tru, a_not, a_asB_0, a_asB_1, a_asB_2, a_asB_3, a_lst_0, a_lst_1, a_and, a_or, a_andK_0, a_andK_1, a_andK_2, a_andK_3, a_andK_4, a_andK_5, a_dIf, a_tand, a_tor, a_tnot, a_ifK_0, a_ifK_1, a_ifK_2, a_ifK_3, a_ifK_4, a_cons, a_consK_0, a_consK_1, a_consK_2, a_consK_3, a_consK_4, a_refA, a_refK_0, a_refK_1, a_refK_2, a_cb, a_tup, a_dLst, a_vals0, a_vals1, a_vals2, a_vals3, a_vals4, call_eq, callO_eq, a_call1, a_call2, a_call3, a_call4, a_rf0, a_rf1, a_rf2, a_rfK_0, a_rfK_1, a_rfK_2, a_end0_0, a_end0_1, a_end0_2, a_end0_3, a_end1, a_put1_0, a_put1_1, a_look, a_lkK_0, a_lkK_1, a_lkK_2, a_ixV, a_ixK_0, a_ixK_1, a_ixK_2, a_lenV, a_truV, a_len_0, a_len_1, a_len_2, a_len_3, a_len_4, a_it, a_rg1, a_rgL, a_en, a_zp, a_itK_0, a_itK_1, a_itK_2, a_itE_0, a_itE_1, a_comp, a_compK_0, a_compK_1, a_isi, a_isO, a_gI_0, a_gI_1, a_gI_2, List.getElem?_cons_zero, List.getElem?_cons_succ, List.set_cons_zero, List.set_cons_succ, Option.bind_some, Option.map_some, f_nil, f_cons, f_some, f_nx, f_ct, f_bk, f_rt, f_ex, a_putV, a_pv0, a_pv1, a_put, a_sp0, a_sp1, a_sp2, a_sp3, a_sp4, a_app, a_sa1, a_sa2, a_aug, a_au1, a_au2, a_au3, gEq_int, gNe_int, ct_rf, ct_own, if_true, if_false, Bool.false_eq_true, a_try, a_tryK_0, a_tryK_1, a_tryK_2, a_tryH_0, a_tryH_1, a_tryK2_0, a_tryK2_1, a_hdS_0, a_hdS_1, a_compX, a_compKX_0, a_fld, a_meth, a_prop, a_propK, a_propE, a_make, a_makeK, a_makeE, a_putF, a_pfK, a_lkv, a_lkvK, a_dct1, a_dct1K, a_dct1K2, a_dct2, a_key, a_putK, a_pk0, a_pk1, a_pk2, a_rg2, a_rg2K, a_rg2K2, a_oL, a_raiseF, a_xr1, a_xr2, a_rgDn, a_xf, a_sortK, a_listK, a_lsK, a_tix, a_tixK, a_isX, a_isxK, a_binV, a_get2, a_g2K, a_ixk, a_ixkK, a_ixkE, hd, ix0, ix1, ix2, ix3', n4, x1, x2, x3, len_l, int1, big, bigv, e1, e5, pm, dm]
        exact ⟨_, _, rfl, ⟨cs, p, r / m, t, rfl, ⟨H.pos, h0, h1, Int.ediv_nonneg r0 (by omega), H.t0, H.t1, hl⟩⟩, lt_m r⟩
      · simp -implicitDefEqProofs only [F__law_take, a_seq, a_expr, a_ret, a_retO, a_set, a_setO, a_if, a_unp, a_for, a_nil, a_retN, a_then_0, a_then_1, a_then_2, a_then_3, a_sK_0, a_sK_1, a_ifS_0, a_ifS_1, a_ifS_2, a_k_0, a_k_1, a_k_2, a_k_3, a_k_4, a_k_5, a_k_6, a_setV, a_setOd, a_setVK_0, a_setVK_1, a_setVK_2, a_setVK_3, a_setVK_4, a_setVK_5, a_c, a_var, a_varK_0, a_varK_1, a_bin, a_binK_0, a_binK_1, a_binK_2, a_binK_3, a_oE_0, a_oE_1, a_un, a_unK_0, a_unK_1, a_unK_2, a_unK_3, a_test, a_tru, a_not, a_asB_0, a_asB_1, a_asB_2, a_asB_3, a_lst_0, a_lst_1, a_and, a_or, a_andK_0, a_andK_1, a_andK_2, a_andK_3, a_andK_4, a_andK_5, a_dIf, a_tand, a_tor, a_tnot, a_ifK_0, a_ifK_1, a_ifK_2, a_ifK_3, a_ifK_4, a_cons, a_consK_0, a_consK_1, a_consK_2, a_consK_3, a_consK_4, a_refA, a_refK_0, a_refK_1, a_refK_2, a_cb, a_tup, a_dLst, a_vals0, a_vals1, a_vals2, a_vals3, a_vals4, call_eq, callO_eq, a_call1, a_call2, a_call3, a_call4, a_rf0, a_rf1, a_rf2, a_rfK_0, a_rfK_1, a_rfK_2, a_end0_0, a_end0_1, a_end0_2, a_end0_3, a_end1, a_put1_0, a_put1_1, a_look, a_lkK_0, a_lkK_1, a_lkK_2, a_ixV, a_ixK_0, a_ixK_1, a_ixK_2, a_lenV, a_truV, a_len_0, a_len_1, a_len_2, a_len_3, a_len_4, a_it, a_rg1, a_rgL, a_en, a_zp, a_itK_0, a_itK_1, a_itK_2, a_itE_0, a_itE_1, a_comp, a_compK_0, a_compK_1, a_isi, a_isO, a_gI_0, a_gI_1, a_gI_2, List.getElem?_cons_zero, List.getElem?_cons_succ, List.set_cons_zero, List.set_cons_succ, Option.bind_some, Option.map_some, f_nil, f_cons, f_some, f_nx, f_ct, f_bk, f_rt, f_ex, a_putV, a_pv0, a_pv1, a_put, a_sp0, a_sp1, a_sp2, a_sp3, a_sp4, a_app, a_sa1, a_sa2, a_aug, a_au1, a_au2, a_au3, gEq_int, gNe_int, ct_rf, ct_own, if_true, if_false, Bool.false_eq_true, a_try, a_tryK_0, a_tryK_1, a_tryK_2, a_tryH_0, a_tryH_1, a_tryK2_0, a_tryK2_1, a_hdS_0, a_hdS_1, a_compX, a_compKX_0, a_fld, a_meth, a_prop, a_propK, a_propE, a_make, a_makeK, a_makeE, a_putF, a_pfK, a_lkv, a_lkvK, a_dct1, a_dct1K, a_dct1K2, a_dct2, a_key, a_putK, a_pk0, a_pk1, a_pk2, a_rg2, a_rg2K, a_rg2K2, a_oL, a_raiseF, a_xr1, a_xr2, a_rgDn, a_xf, a_sortK, a_listK, a_lsK, a_tix, a_tixK, a_isX, a_isxK, a_binV, a_get2, a_g2K, a_ixk, a_ixkK, a_ixkE, hd, ix0, ix1, ix2, ix3', n4, x1, x2, x3, len_l, int1, big, bigv, e1, e2, e5, pm, dm]
        exact ⟨_, _, rfl, ⟨cs, p, r / m, t, rfl, ⟨H.pos, h0, h1, Int.ediv_nonneg r0 (by omega), H.t0, H.t1, hl⟩⟩, lt_m r⟩
    · have e5 : decide (0 < r) = false := decide_eq_false hr
      have t0 := H.t0
      have t1 := H.t1
      obtain ⟨q, eq, q0, q1⟩ := mixed_ev ((t + 1) % 2147483549) p ⟨by omega, by omega⟩ ⟨by omega, by omega⟩
      rcases hskip with e1 | ⟨e1, e2⟩
      · simp -implicitDefEqProofs only [F__law_take, a_seq, a_expr, a_ret, a_retO, a_set, a_setO, a_if, a_unp, a_for, a_nil, a_retN, a_then_0, a_then_1, a_then_2, a_then_3, a_sK_0, a_sK_1, a_ifS_0, a_ifS_1, a_ifS_2, a_k_0, a_k_1, a_k_2, a_k_3, a_k_4, a_k_5, a_k_6, a_setV, a_setOd, a_setVK_0, a_setVK_1, a_setVK_2, a_setVK_3, a_setVK_4, a_setVK_5, a_c, a_var, a_varK_0, a_varK_1, a_bin, a_binK_0, a_binK_1, a_binK_2, a_binK_3, a_oE_0, a_oE_1, a_un, a_unK_0, a_unK_1, a_unK_2, a_unK_3, a_test, a_tru, a_not, a_asB_0, a_asB_1, a_asB_2, a_asB_3, a_lst_0, a_lst_1, a_and, a_or, a_andK_0, a_andK_1, a_andK_2, a_andK_3, a_andK_4, a_andK_5, a_dIf, a_tand, a_tor, a_tnot, a_ifK_0, a_ifK_1, a_ifK_2, a_ifK_3, a_ifK_4, a_cons, a_consK_0, a_consK_1, a_consK_2, a_consK_3, a_consK_4, a_refA, a_refK_0, a_refK_1, a_refK_2, a_cb, a_tup, a_dLst, a_vals0, a_vals1, a_vals2, a_vals3, a_vals4, call_eq, callO_eq, a_call1, a_call2, a_call3, a_call4, a_rf0, a_rf1, a_rf2, a_rfK_0, a_rfK_1, a_rfK_2, a_end0_0, a_end0_1, a_end0_2, a_end0_3, a_end1, a_put1_0, a_put1_1, a_look, a_lkK_0, a_lkK_1, a_lkK_2, a_ixV, a_ixK_0, a_ixK_1, a_ixK_2, a_lenV, a_truV, a_len_0, a_len_1, a_len_2, a_len_3, a_len_4, a_it, a_rg1, a_rgL, a_en, a_zp, a_itK_0, a_itK_1, a_itK_2, a_itE_0, a_itE_1, a_comp, a_compK_0, a_compK_1, a_isi, a_isO, a_gI_0, a_gI_1, a_gI_2, List.getElem?_cons_zero, List.getElem?_cons_succ, List.set_cons_zero, List.set_cons_succ, Option.bind_some, Option.map_some, f_nil, f_cons, f_some, f_nx, f_ct, f_bk, f_rt, f_ex, a_putV, a_pv0, a_pv1, a_put, a_sp0, a_sp1, a_sp2, a_sp3, a_sp4, a_app, a_sa1, a_sa2, a_aug, a_au1, a_au2, a_au3, gEq_int, gNe_int, ct_rf, ct_own, if_true, if_false, Bool.false_eq_true, a_try, a_tryK_0, a_tryK_1, a_tryK_2, a_tryH_0, a_tryH_1, a_tryK2_0, a_tryK2_1, a_hdS_0, a_hdS_1, a_compX, a_compKX_0, a_fld, a_meth, a_prop, a_propK, a_propE, a_make, a_makeK, a_makeE, a_putF, a_pfK, a_lkv, a_lkvK, a_dct1, a_dct1K, a_dct1K2, a_dct2, a_key, a_putK, a_pk0, a_pk1, a_pk2, a_rg2, a_rg2K, a_rg2K2, a_oL, a_raiseF, a_xr1, a_xr2, a_rgDn, a_xf, a_sortK, a_listK, a_lsK, a_tix, a_tixK, a_isX, a_isxK, a_binV, a_get2, a_g2K, a_ixk, a_ixkK, a_ixkE, hd, ix0, ix1, ix2, ix3', n4, x1, x2, x3, len_l, int1, big, bigv, e1, e5, eq, pm, dm, p2]
        exact ⟨_, _, rfl, ⟨cs, p, r, (t + 1) % 2147483549, rfl, ⟨H.pos, h0, h1, r0, by omega, by omega, hl⟩⟩, lt_m q⟩
      · simp -implicitDefEqProofs only [F__law_take, a_seq, a_expr, a_ret, a_retO, a_set, a_setO, a_if, a_unp, a_for, a_nil, a_retN, a_then_0, a_then_1, a_then_2, a_then_3, a_sK_0, a_sK_1, a_ifS_0, a_ifS_1, a_ifS_2, a_k_0, a_k_1, a_k_2, a_k_3, a_k_4, a_k_5, a_k_6, a_setV, a_setOd, a_setVK_0, a_setVK_1, a_setVK_2, a_setVK_3, a_setVK_4, a_setVK_5, a_c, a_var, a_varK_0, a_varK_1, a_bin, a_binK_0, a_binK_1, a_binK_2, a_binK_3, a_oE_0, a_oE_1, a_un, a_unK_0, a_unK_1, a_unK_2, a_unK_3, a_test, a_tru, a_not, a_asB_0, a_asB_1, a_asB_2, a_asB_3, a_lst_0, a_lst_1, a_and, a_or, a_andK_0, a_andK_1, a_andK_2, a_andK_3, a_andK_4, a_andK_5, a_dIf, a_tand, a_tor, a_tnot, a_ifK_0, a_ifK_1, a_ifK_2, a_ifK_3, a_ifK_4, a_cons, a_consK_0, a_consK_1, a_consK_2, a_consK_3, a_consK_4, a_refA, a_refK_0, a_refK_1, a_refK_2, a_cb, a_tup, a_dLst, a_vals0, a_vals1, a_vals2, a_vals3, a_vals4, call_eq, callO_eq, a_call1, a_call2, a_call3, a_call4, a_rf0, a_rf1, a_rf2, a_rfK_0, a_rfK_1, a_rfK_2, a_end0_0, a_end0_1, a_end0_2, a_end0_3, a_end1, a_put1_0, a_put1_1, a_look, a_lkK_0, a_lkK_1, a_lkK_2, a_ixV, a_ixK_0, a_ixK_1, a_ixK_2, a_lenV, a_truV, a_len_0, a_len_1, a_len_2, a_len_3, a_len_4, a_it, a_rg1, a_rgL, a_en, a_zp, a_itK_0, a_itK_1, a_itK_2, a_itE_0, a_itE_1, a_comp, a_compK_0, a_compK_1, a_isi, a_isO, a_gI_0, a_gI_1, a_gI_2, List.getElem?_cons_zero, List.getElem?_cons_succ, List.set_cons_zero, List.set_cons_succ, Option.bind_some, Option.map_some, f_nil, f_cons, f_some, f_nx, f_ct, f_bk, f_rt, f_ex, a_putV, a_pv0, a_pv1, a_put, a_sp0, a_sp1, a_sp2, a_sp3, a_sp4, a_app, a_sa1, a_sa2, a_aug, a_au1, a_au2, a_au3, gEq_int, gNe_int, ct_rf, ct_own, if_true, if_false, Bool.false_eq_true, a_try, a_tryK_0, a_tryK_1, a_tryK_2, a_tryH_0, a_tryH_1, a_tryK2_0, a_tryK2_1, a_hdS_0, a_hdS_1, a_compX, a_compKX_0, a_fld, a_meth, a_prop, a_propK, a_propE, a_make, a_makeK, a_makeE, a_putF, a_pfK, a_lkv, a_lkvK, a_dct1, a_dct1K, a_dct1K2, a_dct2, a_key, a_putK, a_pk0, a_pk1, a_pk2, a_rg2, a_rg2K, a_rg2K2, a_oL, a_raiseF, a_xr1, a_xr2, a_rgDn, a_xf, a_sortK, a_listK, a_lsK, a_tix, a_tixK, a_isX, a_isxK, a_binV, a_get2, a_g2K, a_ixk, a_ixkK, a_ixkE, hd, ix0, ix1, ix2, ix3', n4, x1, x2, x3, len_l, int1, big, bigv, e1, e2, e5, eq, pm, dm, p2]
        exact ⟨_, _, rfl, ⟨cs, p, r, (t + 1) % 2147483549, rfl, ⟨H.pos, h0, h1, r0, by omega, by omega, hl⟩⟩, lt_m q⟩
theorem take_nat (d : D) (m : Nat) (h : Hand d) (hm : 0 < m) (hm2 : m ≤ 4096) : ∃ (t : Nat) (d' : D), fn__law_take [d, .int (m : Int)] = .ret (.int (t : Int)) [d'] ∧ Hand d' ∧ t < m := by
  obtain ⟨r, d', e, h', h0, h1⟩ := take_ev d (m : Int) h (by omega) (by omega)
  obtain ⟨t, rfl⟩ := Int.eq_ofNat_of_zero_le h0
  exact ⟨t, d', e, h', by omega⟩
theorem list_ev (d : D) (ds : List D) (h : Hand d) : ∃ (q : Bool) (d' : D), fn__law_list [d, .lst ds] = .ret (sq q ds) [d'] ∧ Hand d' := by
  obtain ⟨t, d1, e, hd1, ht⟩ := take_nat d 2 h (by decide) (by decide)
  have e : fn__law_take [d, .int 2] = .ret (.int (t : Int)) [d1] := e
  have g1 : gList [.lst ds] = some (.lst ds) := rfl
  have g2 : gTuple [.lst ds] = some (.tup ds) := rfl
  rw [o__law_list]
  by_cases t0 : t = 0
  · subst t0
    refine ⟨true, d1, ?_, hd1⟩
    simp -implicitDefEqProofs only [F__law_list, a_seq, a_expr, a_ret, a_retO, a_set, a_setO, a_if, a_unp, a_for, a_nil, a_retN, a_then_0, a_then_1, a_then_2, a_then_3, a_sK_0, a_sK_1, a_ifS_0, a_ifS_1, a_ifS_2, a_k_0, a_k_1, a_k_2, a_k_3, a_k_4, a_k_5, a_k_6, a_setV, a_setOd, a_setVK_0, a_setVK_1, a_setVK_2, a_setVK_3, a_setVK_4, a_setVK_5, a_c, a_var, a_varK_0, a_varK_1, a_bin, a_binK_0, a_binK_1, a_binK_2, a_binK_3, a_oE_0, a_oE_1, a_un, a_unK_0, a_unK_1, a_unK_2, a_unK_3, a_test, a_tru, a_not, a_asB_0, a_asB_1, a_asB_2, a_asB_3, a_lst_0, a_lst_1, a_and, a_or, a_andK_0, a_andK_1, a_andK_2, a_andK_3, a_andK_4, a_andK_5, a_dIf, a_tand, a_tor, a_tnot, a_ifK_0, a_ifK_1, a_ifK_2, a_ifK_3, a_ifK_4, a_cons, a_consK_0, a_consK_1, a_consK_2, a_consK_3, a_consK_4, a_refA, a_refK_0, a_refK_1, a_refK_2, a_cb, a_tup, a_dLst, a_vals0, a_vals1, a_vals2, a_vals3, a_vals4, call_eq, callO_eq, a_call1, a_call2, a_call3, a_call4, a_rf0, a_rf1, a_rf2, a_rfK_0, a_rfK_1, a_rfK_2, a_end0_0, a_end0_1, a_end0_2, a_end0_3, a_end1, a_put1_0, a_put1_1, a_look, a_lkK_0, a_lkK_1, a_lkK_2, a_ixV, a_ixK_0, a_ixK_1, a_ixK_2, a_lenV, a_truV, a_len_0, a_len_1, a_len_2, a_len_3, a_len_4, a_it, a_rg1, a_rgL, a_en, a_zp, a_itK_0, a_itK_1, a_itK_2, a_itE_0, a_itE_1, a_comp, a_compK_0, a_compK_1, a_isi, a_isO, a_gI_0, a_gI_1, a_gI_2, List.getElem?_cons_zero, List.getElem?_cons_succ, List.set_cons_zero, List.set_cons_succ, Option.bind_some, Option.map_some, f_nil, f_cons, f_some, f_nx, f_ct, f_bk, f_rt, f_ex, a_putV, a_pv0, a_pv1, a_put, a_sp0, a_sp1, a_sp2, a_sp3, a_sp4, a_app, a_sa1, a_sa2, a_aug, a_au1, a_au2, a_au3, gEq_int, gNe_int, ct_rf, ct_own, if_true, if_false, Bool.false_eq_true, a_try, a_tryK_0, a_tryK_1, a_tryK_2, a_tryH_0, a_tryH_1, a_tryK2_0, a_tryK2_1, a_hdS_0, a_hdS_1, a_compX, a_compKX_0, a_fld, a_meth, a_prop, a_propK, a_propE, a_make, a_makeK, a_makeE, a_putF, a_pfK, a_lkv, a_lkvK, a_dct1, a_dct1K, a_dct1K2, a_dct2, a_key, a_putK, a_pk0, a_pk1, a_pk2, a_rg2, a_rg2K, a_rg2K2, a_oL, a_raiseF, a_xr1, a_xr2, a_rgDn, a_xf, a_sortK, a_listK, a_lsK, a_tix, a_tixK, a_isX, a_isxK, a_binV, a_get2, a_g2K, a_ixk, a_ixkK, a_ixkE, e, nz0, g2]
    rfl
  · refine ⟨false, d1, ?_, hd1⟩
    simp -implicitDefEqProofs only [F__law_list, a_seq, a_expr, a_ret, a_retO, a_set, a_setO, a_if, a_unp, a_for, a_nil, a_retN, a_then_0, a_then_1, a_then_2, a_then_3, a_sK_0, a_sK_1, a_ifS_0, a_ifS_1, a_ifS_2, a_k_0, a_k_1, a_k_2, a_k_3, a_k_4, a_k_5, a_k_6, a_setV, a_setOd, a_setVK_0, a_setVK_1, a_setVK_2, a_setVK_3, a_setVK_4, a_setVK_5, a_c, a_var, a_varK_0, a_varK_1, a_bin, a_binK_0, a_binK_1, a_binK_2, a_binK_3, a_oE_0, a_oE_1, a_un, a_unK_0, a_unK_1, a_unK_2, a_unK_3, a_test, a_tru, a_not, a_asB_0, a_asB_1, a_asB_2, a_asB_3, a_lst_0, a_lst_1, a_and, a_or, a_andK_0, a_andK_1, a_andK_2, a_andK_3, a_andK_4, a_andK_5, a_dIf, a_tand, a_tor, a_tnot, a_ifK_0, a_ifK_1, a_ifK_2, a_ifK_3, a_ifK_4, a_cons, a_consK_0, a_consK_1, a_consK_2, a_consK_3, a_consK_4, a_refA, a_refK_0, a_refK_1, a_refK_2, a_cb, a_tup, a_dLst, a_vals0, a_vals1, a_vals2, a_vals3, a_vals4, call_eq, callO_eq, a_call1, a_call2, a_call3, a_call4, a_rf0, a_rf1, a_rf2, a_rfK_0, a_rfK_1, a_rfK_2, a_end0_0, a_end0_1, a_end0_2, a_end0_3, a_end1, a_put1_0, a_put1_1, a_look, a_lkK_0, a_lkK_1, a_lkK_2, a_ixV, a_ixK_0, a_ixK_1, a_ixK_2, a_lenV, a_truV, a_len_0, a_len_1, a_len_2, a_len_3, a_len_4, a_it, a_rg1, a_rgL, a_en, a_zp, a_itK_0, a_itK_1, a_itK_2, a_itE_0, a_itE_1, a_comp, a_compK_0, a_compK_1, a_isi, a_isO, a_gI_0, a_gI_1, a_gI_2, List.getElem?_cons_zero, List.getElem?_cons_succ, List.set_cons_zero, List.set_cons_succ, Option.bind_some, Option.map_some, f_nil, f_cons, f_some, f_nx, f_ct, f_bk, f_rt, f_ex, a_putV, a_pv0, a_pv1, a_put, a_sp0, a_sp1, a_sp2, a_sp3, a_sp4, a_app, a_sa1, a_sa2, a_aug, a_au1, a_au2, a_au3, gEq_int, gNe_int, ct_rf, ct_own, if_true, if_false, Bool.false_eq_true, a_try, a_tryK_0, a_tryK_1, a_tryK_2, a_tryH_0, a_tryH_1, a_tryK2_0, a_tryK2_1, a_hdS_0, a_hdS_1, a_compX, a_compKX_0, a_fld, a_meth, a_prop, a_propK, a_propE, a_make, a_makeK, a_makeE, a_putF, a_pfK, a_lkv, a_lkvK, a_dct1, a_dct1K, a_dct1K2, a_dct2, a_key, a_putK, a_pk0, a_pk1, a_pk2, a_rg2, a_rg2K, a_rg2K2, a_oL, a_raiseF, a_xr1, a_xr2, a_rgDn, a_xf, a_sortK, a_listK, a_lsK, a_tix, a_tixK, a_isX, a_isxK, a_binV, a_get2, a_g2K, a_ixk, a_ixkK, a_ixkE, e, nz t t0, g1]
    rfl
end LW

set_option maxRecDepth 100000
set_option maxHeartbeats 2000000
namespace LW
open PySem PySem.Spec PyProof.Rows L2 DL
end LW

set_option maxRecDepth 100000
set_option maxHeartbeats 2000000
namespace LW
open PySem PySem.Spec PyProof.Rows L2 DL
end LW

set_option maxRecDepth 100000
set_option maxHeartbeats 2000000
namespace LW
open PySem PySem.Spec PyProof.Rows L2 DL
theorem lint_ev (i : Int) : fn__law_int [.int i] = .ret (.bl true) [] := by
  rw [o__law_int]
  simp -implicitDefEqProofs only [F__law_int, a_seq, a_expr, a_ret, a_retO, a_set, a_setO, a_if, a_unp, a_for, a_nil, a_retN, a_then_0, a_then_1, a_then_2, a_then_3, a_sK_0, a_sK_1, a_ifS_0, a_ifS_1, a_ifS_2, a_k_0, a_k_1, a_k_2, a_k_3, a_k_4, a_k_5, a_k_6, a_setV, a_setOd, a_setVK_0, a_setVK_1, a_setVK_2, a_setVK_3, a_setVK_4, a_setVK_5, a_c, a_var, a_varK_0, a_varK_1, a_bin, a_binK_0, a_binK_1, a_binK_2, a_binK_3, a_oE_0, a_oE_1, a_un, a_unK_0, a_unK_1, a_unK_2, a_unK_3, a_test, a_tru, a_not, a_asB_0, a_asB_1, a_asB_2, a_asB_3, a_lst_0, a_lst_1, a_and, a_or, a_andK_0, a_andK_1, a_andK_2, a_andK_3, a_andK_4, a_andK_5, a_dIf, a_tand, a_tor, a_tnot, a_ifK_0, a_ifK_1, a_ifK_2, a_ifK_3, a_ifK_4, a_cons, a_consK_0, a_consK_1, a_consK_2, a_consK_3, a_consK_4, a_refA, a_refK_0, a_refK_1, a_refK_2, a_cb, a_tup, a_dLst, a_vals0, a_vals1, a_vals2, a_vals3, a_vals4, call_eq, callO_eq, a_call1, a_call2, a_call3, a_call4, a_rf0, a_rf1, a_rf2, a_rfK_0, a_rfK_1, a_rfK_2, a_end0_0, a_end0_1, a_end0_2, a_end0_3, a_end1, a_put1_0, a_put1_1, a_look, a_lkK_0, a_lkK_1, a_lkK_2, a_ixV, a_ixK_0, a_ixK_1, a_ixK_2, a_lenV, a_truV, a_len_0, a_len_1, a_len_2, a_len_3, a_len_4, a_it, a_rg1, a_rgL, a_en, a_zp, a_itK_0, a_itK_1, a_itK_2, a_itE_0, a_itE_1, a_comp, a_compK_0, a_compK_1, a_isi, a_isO, a_gI_0, a_gI_1, a_gI_2, List.getElem?_cons_zero, List.getElem?_cons_succ, List.set_cons_zero, List.set_cons_succ, Option.bind_some, Option.map_some, f_nil, f_cons, f_some, f_nx, f_ct, f_bk, f_rt, f_ex, a_putV, a_pv0, a_pv1, a_put, a_sp0, a_sp1, a_sp2, a_sp3, a_sp4, a_app, a_sa1, a_sa2, a_aug, a_au1, a_au2, a_au3, gEq_int, gNe_int, ct_rf, ct_own, if_true, if_false, Bool.false_eq_true, a_try, a_tryK_0, a_tryK_1, a_tryK_2, a_tryH_0, a_tryH_1, a_tryK2_0, a_tryK2_1, a_hdS_0, a_hdS_1, a_compX, a_compKX_0, a_fld, a_meth, a_prop, a_propK, a_propE, a_make, a_makeK, a_makeE, a_putF, a_pfK, a_lkv, a_lkvK, a_dct1, a_dct1K, a_dct1K2, a_dct2, a_key, a_putK, a_pk0, a_pk1, a_pk2, a_rg2, a_rg2K, a_rg2K2, a_oL, a_raiseF, a_xr1, a_xr2, a_rgDn, a_xf, a_sortK, a_listK, a_lsK, a_tix, a_tixK, a_isX, a_isxK, a_binV, a_get2, a_g2K, a_ixk, a_ixkK, a_ixkE, isi_int, s5, s3, Bool.not_false]
  rfl
theorem exact_int (n : Nat) (i : Int) : fn__law_exact (n + 1) [.int i, .int i] = .ret (.bl true) [] := by
  rw [o__law_exact]
  simp -implicitDefEqProofs only [F__law_exact, a_seq, a_expr, a_ret, a_retO, a_set, a_setO, a_if, a_unp, a_for, a_nil, a_retN, a_then_0, a_then_1, a_then_2, a_then_3, a_sK_0, a_sK_1, a_ifS_0, a_ifS_1, a_ifS_2, a_k_0, a_k_1, a_k_2, a_k_3, a_k_4, a_k_5, a_k_6, a_setV, a_setOd, a_setVK_0, a_setVK_1, a_setVK_2, a_setVK_3, a_setVK_4, a_setVK_5, a_c, a_var, a_varK_0, a_varK_1, a_bin, a_binK_0, a_binK_1, a_binK_2, a_binK_3, a_oE_0, a_oE_1, a_un, a_unK_0, a_unK_1, a_unK_2, a_unK_3, a_test, a_tru, a_not, a_asB_0, a_asB_1, a_asB_2, a_asB_3, a_lst_0, a_lst_1, a_and, a_or, a_andK_0, a_andK_1, a_andK_2, a_andK_3, a_andK_4, a_andK_5, a_dIf, a_tand, a_tor, a_tnot, a_ifK_0, a_ifK_1, a_ifK_2, a_ifK_3, a_ifK_4, a_cons, a_consK_0, a_consK_1, a_consK_2, a_consK_3, a_consK_4, a_refA, a_refK_0, a_refK_1, a_refK_2, a_cb, a_tup, a_dLst, a_vals0, a_vals1, a_vals2, a_vals3, a_vals4, call_eq, callO_eq, a_call1, a_call2, a_call3, a_call4, a_rf0, a_rf1, a_rf2, a_rfK_0, a_rfK_1, a_rfK_2, a_end0_0, a_end0_1, a_end0_2, a_end0_3, a_end1, a_put1_0, a_put1_1, a_look, a_lkK_0, a_lkK_1, a_lkK_2, a_ixV, a_ixK_0, a_ixK_1, a_ixK_2, a_lenV, a_truV, a_len_0, a_len_1, a_len_2, a_len_3, a_len_4, a_it, a_rg1, a_rgL, a_en, a_zp, a_itK_0, a_itK_1, a_itK_2, a_itE_0, a_itE_1, a_comp, a_compK_0, a_compK_1, a_isi, a_isO, a_gI_0, a_gI_1, a_gI_2, List.getElem?_cons_zero, List.getElem?_cons_succ, List.set_cons_zero, List.set_cons_succ, Option.bind_some, Option.map_some, f_nil, f_cons, f_some, f_nx, f_ct, f_bk, f_rt, f_ex, a_putV, a_pv0, a_pv1, a_put, a_sp0, a_sp1, a_sp2, a_sp3, a_sp4, a_app, a_sa1, a_sa2, a_aug, a_au1, a_au2, a_au3, gEq_int, gNe_int, ct_rf, ct_own, if_true, if_false, Bool.false_eq_true, a_try, a_tryK_0, a_tryK_1, a_tryK_2, a_tryH_0, a_tryH_1, a_tryK2_0, a_tryK2_1, a_hdS_0, a_hdS_1, a_compX, a_compKX_0, a_fld, a_meth, a_prop, a_propK, a_propE, a_make, a_makeK, a_makeE, a_putF, a_pfK, a_lkv, a_lkvK, a_dct1, a_dct1K, a_dct1K2, a_dct2, a_key, a_putK, a_pk0, a_pk1, a_pk2, a_rg2, a_rg2K, a_rg2K2, a_oL, a_raiseF, a_xr1, a_xr2, a_rgDn, a_xf, a_sortK, a_listK, a_lsK, a_tix, a_tixK, a_isX, a_isxK, a_binV, a_get2, a_g2K, a_ixk, a_ixkK, a_ixkE, isi_int, s1, s3, s4, (is_non i).1, lint_ev, beq_self_eq_true]
  rfl
theorem exact_tup (n : Nat) (ds : List D) (hl : ds.length ≤ 4096) (ih : ∀ d ∈ ds, fn__law_exact (n + 1) [d, d] = .ret (.bl true) []) : fn__law_exact (n + 2) [.tup ds, .tup ds] = .ret (.bl true) [] := by
  rw [o__law_exact]
  have c : compL (setV 2) (Q__law_exact_0 (fn__law_exact (n + 1))) (E__law_exact_0 (fn__law_exact (n + 1))) [2] (rgF 0 ds.length) [.val (.tup ds), .val (.tup ds), .un] [] = .ok (.lst []) [.val (.tup ds), .val (.tup ds), .un] := by
    have := comp_map (setV 2) (Q__law_exact_0 (fn__law_exact (n + 1))) (E__law_exact_0 (fn__law_exact (n + 1))) [2] (δ := [.val (.tup ds), .val (.tup ds), .un]) (fun _ => false) id rfl (rgF 0 ds.length) [] (by rw [rgF_len]; exact le_line (by simpa using hl)) fun d hd => by
      obtain ⟨k, hk, rfl⟩ := mem_rgF hd
      have e := ih ds[k] (List.getElem_mem hk)
      have ei : idxD (.tup ds) (.int ((k : Nat) : Int)) = some ds[k] := ix_any true (List.getElem?_eq_getElem hk)
      refine ⟨[.val (.tup ds), .val (.tup ds), .val (.int (k : Int))], [.val (.tup ds), .val (.tup ds), .val (.int (k : Int))], rfl, ?_, fun _ => rfl, fun z => by cases z⟩
      simp -implicitDefEqProofs only [Q__law_exact_0, a_seq, a_expr, a_ret, a_retO, a_set, a_setO, a_if, a_unp, a_for, a_nil, a_retN, a_then_0, a_then_1, a_then_2, a_then_3, a_sK_0, a_sK_1, a_ifS_0, a_ifS_1, a_ifS_2, a_k_0, a_k_1, a_k_2, a_k_3, a_k_4, a_k_5, a_k_6, a_setV, a_setOd, a_setVK_0, a_setVK_1, a_setVK_2, a_setVK_3, a_setVK_4, a_setVK_5, a_c, a_var, a_varK_0, a_varK_1, a_bin, a_binK_0, a_binK_1, a_binK_2, a_binK_3, a_oE_0, a_oE_1, a_un, a_unK_0, a_unK_1, a_unK_2, a_unK_3, a_test, a_tru, a_not, a_asB_0, a_asB_1, a_asB_2, a_asB_3, a_lst_0, a_lst_1, a_and, a_or, a_andK_0, a_andK_1, a_andK_2, a_andK_3, a_andK_4, a_andK_5, a_dIf, a_tand, a_tor, a_tnot, a_ifK_0, a_ifK_1, a_ifK_2, a_ifK_3, a_ifK_4, a_cons, a_consK_0, a_consK_1, a_consK_2, a_consK_3, a_consK_4, a_refA, a_refK_0, a_refK_1, a_refK_2, a_cb, a_tup, a_dLst, a_vals0, a_vals1, a_vals2, a_vals3, a_vals4, call_eq, callO_eq, a_call1, a_call2, a_call3, a_call4, a_rf0, a_rf1, a_rf2, a_rfK_0, a_rfK_1, a_rfK_2, a_end0_0, a_end0_1, a_end0_2, a_end0_3, a_end1, a_put1_0, a_put1_1, a_look, a_lkK_0, a_lkK_1, a_lkK_2, a_ixV, a_ixK_0, a_ixK_1, a_ixK_2, a_lenV, a_truV, a_len_0, a_len_1, a_len_2, a_len_3, a_len_4, a_it, a_rg1, a_rgL, a_en, a_zp, a_itK_0, a_itK_1, a_itK_2, a_itE_0, a_itE_1, a_comp, a_compK_0, a_compK_1, a_isi, a_isO, a_gI_0, a_gI_1, a_gI_2, List.getElem?_cons_zero, List.getElem?_cons_succ, List.set_cons_zero, List.set_cons_succ, Option.bind_some, Option.map_some, f_nil, f_cons, f_some, f_nx, f_ct, f_bk, f_rt, f_ex, a_putV, a_pv0, a_pv1, a_put, a_sp0, a_sp1, a_sp2, a_sp3, a_sp4, a_app, a_sa1, a_sa2, a_aug, a_au1, a_au2, a_au3, gEq_int, gNe_int, ct_rf, ct_own, if_true, if_false, Bool.false_eq_true, a_try, a_tryK_0, a_tryK_1, a_tryK_2, a_tryH_0, a_tryH_1, a_tryK2_0, a_tryK2_1, a_hdS_0, a_hdS_1, a_compX, a_compKX_0, a_fld, a_meth, a_prop, a_propK, a_propE, a_make, a_makeK, a_makeE, a_putF, a_pfK, a_lkv, a_lkvK, a_dct1, a_dct1K, a_dct1K2, a_dct2, a_key, a_putK, a_pk0, a_pk1, a_pk2, a_rg2, a_rg2K, a_rg2K2, a_oL, a_raiseF, a_xr1, a_xr2, a_rgDn, a_xf, a_sortK, a_listK, a_lsK, a_tix, a_tixK, a_isX, a_isxK, a_binV, a_get2, a_g2K, a_ixk, a_ixkK, a_ixkE, ei, e, Bool.not_true]
    rw [this]; simp
  have gE : gEq false (.lst []) (.lst []) = some (.bl true) := rfl
  simp -implicitDefEqProofs only [F__law_exact, a_seq, a_expr, a_ret, a_retO, a_set, a_setO, a_if, a_unp, a_for, a_nil, a_retN, a_then_0, a_then_1, a_then_2, a_then_3, a_sK_0, a_sK_1, a_ifS_0, a_ifS_1, a_ifS_2, a_k_0, a_k_1, a_k_2, a_k_3, a_k_4, a_k_5, a_k_6, a_setV, a_setOd, a_setVK_0, a_setVK_1, a_setVK_2, a_setVK_3, a_setVK_4, a_setVK_5, a_c, a_var, a_varK_0, a_varK_1, a_bin, a_binK_0, a_binK_1, a_binK_2, a_binK_3, a_oE_0, a_oE_1, a_un, a_unK_0, a_unK_1, a_unK_2, a_unK_3, a_test, a_tru, a_not, a_asB_0, a_asB_1, a_asB_2, a_asB_3, a_lst_0, a_lst_1, a_and, a_or, a_andK_0, a_andK_1, a_andK_2, a_andK_3, a_andK_4, a_andK_5, a_dIf, a_tand, a_tor, a_tnot, a_ifK_0, a_ifK_1, a_ifK_2, a_ifK_3, a_ifK_4, a_cons, a_consK_0, a_consK_1, a_consK_2, a_consK_3, a_consK_4, a_refA, a_refK_0, a_refK_1, a_refK_2, a_cb, a_tup, a_dLst, a_vals0, a_vals1, a_vals2, a_vals3, a_vals4, call_eq, callO_eq, a_call1, a_call2, a_call3, a_call4, a_rf0, a_rf1, a_rf2, a_rfK_0, a_rfK_1, a_rfK_2, a_end0_0, a_end0_1, a_end0_2, a_end0_3, a_end1, a_put1_0, a_put1_1, a_look, a_lkK_0, a_lkK_1, a_lkK_2, a_ixV, a_ixK_0, a_ixK_1, a_ixK_2, a_lenV, a_truV, a_len_0, a_len_1, a_len_2, a_len_3, a_len_4, a_it, a_rg1, a_rgL, a_en, a_zp, a_itK_0, a_itK_1, a_itK_2, a_itE_0, a_itE_1, a_comp, a_compK_0, a_compK_1, a_isi, a_isO, a_gI_0, a_gI_1, a_gI_2, List.getElem?_cons_zero, List.getElem?_cons_succ, List.set_cons_zero, List.set_cons_succ, Option.bind_some, Option.map_some, f_nil, f_cons, f_some, f_nx, f_ct, f_bk, f_rt, f_ex, a_putV, a_pv0, a_pv1, a_put, a_sp0, a_sp1, a_sp2, a_sp3, a_sp4, a_app, a_sa1, a_sa2, a_aug, a_au1, a_au2, a_au3, gEq_int, gNe_int, ct_rf, ct_own, if_true, if_false, Bool.false_eq_true, a_try, a_tryK_0, a_tryK_1, a_tryK_2, a_tryH_0, a_tryH_1, a_tryK2_0, a_tryK2_1, a_hdS_0, a_hdS_1, a_compX, a_compKX_0, a_fld, a_meth, a_prop, a_propK, a_propE, a_make, a_makeK, a_makeE, a_putF, a_pfK, a_lkv, a_lkvK, a_dct1, a_dct1K, a_dct1K2, a_dct2, a_key, a_putK, a_pk0, a_pk1, a_pk2, a_rg2, a_rg2K, a_rg2K2, a_oL, a_raiseF, a_xr1, a_xr2, a_rgDn, a_xf, a_sortK, a_listK, a_lsK, a_tix, a_tixK, a_isX, a_isxK, a_binV, a_get2, a_g2K, a_ixk, a_ixkK, a_ixkE, isi_tup, s2, Bool.not_true, beq_self_eq_true, itF ds.length hl, c, gLst0, gE]
  rfl
end LW

set_option maxRecDepth 100000
set_option maxHeartbeats 2000000
namespace LW
open PySem PySem.Spec PyProof.Rows L2 DL
end LW

set_option maxRecDepth 100000
set_option maxHeartbeats 2000000
namespace LW
open PySem PySem.Spec PyProof.Rows L2 DL
end LW

set_option maxRecDepth 100000
set_option maxHeartbeats 2000000
namespace LW
open PySem PySem.Spec PyProof.Rows L2 DL
theorem t1 : (["bool"].any (subT "int")) = false := by decide
theorem seq_ev (q : Bool) (ds : List D) : fn_is_sequence [sq q ds] = .ret (.bl true) [] := by
  rw [o_is_sequence]
  simp -implicitDefEqProofs only [F_is_sequence, a_seq, a_expr, a_ret, a_retO, a_set, a_setO, a_if, a_unp, a_for, a_nil, a_retN, a_then_0, a_then_1, a_then_2, a_then_3, a_sK_0, a_sK_1, a_ifS_0, a_ifS_1, a_ifS_2, a_k_0, a_k_1, a_k_2, a_k_3, a_k_4, a_k_5, a_k_6, a_setV, a_setOd, a_setVK_0, a_setVK_1, a_setVK_2, a_setVK_3, a_setVK_4, a_setVK_5, a_c, a_var, a_varK_0, a_varK_1, a_bin, a_binK_0, a_binK_1, a_binK_2, a_binK_3, a_oE_0, a_oE_1, a_un, a_unK_0, a_unK_1, a_unK_2, a_unK_3, a_test, a_tru, a_not, a_asB_0, a_asB_1, a_asB_2, a_asB_3, a_lst_0, a_lst_1, a_and, a_or, a_andK_0, a_andK_1, a_andK_2, a_andK_3, a_andK_4, a_andK_5, a_dIf, a_tand, a_tor, a_tnot, a_ifK_0, a_ifK_1, a_ifK_2, a_ifK_3, a_ifK_4, a_cons, a_consK_0, a_consK_1, a_consK_2, a_consK_3, a_consK_4, a_refA, a_refK_0, a_refK_1, a_refK_2, a_cb, a_tup, a_dLst, a_vals0, a_vals1, a_vals2, a_vals3, a_vals4, call_eq, callO_eq, a_call1, a_call2, a_call3, a_call4, a_rf0, a_rf1, a_rf2, a_rfK_0, a_rfK_1, a_rfK_2, a_end0_0, a_end0_1, a_end0_2, a_end0_3, a_end1, a_put1_0, a_put1_1, a_look, a_lkK_0, a_lkK_1, a_lkK_2, a_ixV, a_ixK_0, a_ixK_1, a_ixK_2, a_lenV, a_truV, a_len_0, a_len_1, a_len_2, a_len_3, a_len_4, a_it, a_rg1, a_rgL, a_en, a_zp, a_itK_0, a_itK_1, a_itK_2, a_itE_0, a_itE_1, a_comp, a_compK_0, a_compK_1, a_isi, a_isO, a_gI_0, a_gI_1, a_gI_2, List.getElem?_cons_zero, List.getElem?_cons_succ, List.set_cons_zero, List.set_cons_succ, Option.bind_some, Option.map_some, f_nil, f_cons, f_some, f_nx, f_ct, f_bk, f_rt, f_ex, a_putV, a_pv0, a_pv1, a_put, a_sp0, a_sp1, a_sp2, a_sp3, a_sp4, a_app, a_sa1, a_sa2, a_aug, a_au1, a_au2, a_au3, gEq_int, gNe_int, ct_rf, ct_own, if_true, if_false, Bool.false_eq_true, a_try, a_tryK_0, a_tryK_1, a_tryK_2, a_tryH_0, a_tryH_1, a_tryK2_0, a_tryK2_1, a_hdS_0, a_hdS_1, a_compX, a_compKX_0, a_fld, a_meth, a_prop, a_propK, a_propE, a_make, a_makeK, a_makeE, a_putF, a_pfK, a_lkv, a_lkvK, a_dct1, a_dct1K, a_dct1K2, a_dct2, a_key, a_putK, a_pk0, a_pk1, a_pk2, a_rg2, a_rg2K, a_rg2K2, a_oL, a_raiseF, a_xr1, a_xr2, a_rgDn, a_xf, a_sortK, a_listK, a_lsK, a_tix, a_tixK, a_isX, a_isxK, a_binV, a_get2, a_g2K, a_ixk, a_ixkK, a_ixkE, isi_sq]
  rfl
end LW

set_option maxRecDepth 100000
set_option maxHeartbeats 2000000
namespace LW
open PySem PySem.Spec PyProof.Rows L2 DL
end LW

set_option maxRecDepth 100000
set_option maxHeartbeats 2000000
namespace LW
open PySem PySem.Spec PyProof.Rows L2 DL
/-! ### the law's glasses: met, members, rounded, refined -/
theorem neg1 : gU (fun i => -i) (.int 1) = some (.int (-1)) := rfl
end LW

set_option maxRecDepth 100000
set_option maxHeartbeats 2000000
namespace LW
open PySem PySem.Spec PyProof.Rows L2 DL
theorem addn (a t : Nat) : gAdd (.int (a : Int)) (.int (t : Int)) = some (.int ((a + t : Nat) : Int)) := by
  show some (D.int ((a : Int) + (t : Int))) = _
  rw [Int.natCast_add]
theorem rowD_range (n : Nat) : rgF 0 n = rowD (List.range n) := by
  unfold rgF rowD
  rw [List.range_eq_range']
theorem it_lst (ds : List D) (δ : DEnv) : itK1 dItems (.ok (.lst ds) δ) = .ok ds δ := rfl
theorem it_tup (ds : List D) (δ : DEnv) : itK1 dItems (.ok (.tup ds) δ) = .ok ds δ := rfl
end LW

set_option maxRecDepth 100000
set_option maxHeartbeats 2000000
namespace LW
open PySem PySem.Spec PyProof.Rows L2 DL
end LW

set_option maxRecDepth 100000
set_option maxHeartbeats 2000000
namespace LW
open PySem PySem.Spec PyProof.Rows L2 DL
/-! ### the program's glasses -/
end LW

set_option maxRecDepth 100000
set_option maxHeartbeats 2000000
namespace LW
open PySem PySem.Spec PyProof.Rows L2 DL
/-! ### sharp steps of the program -/
theorem beq_nat (a c : Nat) : (((a : Int)) == (c : Int)) = decide (a = c) := by
  rw [Bool.eq_iff_iff]; simp only [beq_iff_eq, decide_eq_true_eq]; omega
end LW

set_option maxRecDepth 100000
set_option maxHeartbeats 2000000
namespace LW
open PySem PySem.Spec PyProof.Rows L2 DL
/-! ### members, unsharp members, blurred lots, least and greatest lots -/
def us (m b : Nat) : D := .ins "Unsharp" ["member", "back"] [.int ((m : Nat) : Int), .int ((b : Nat) : Int)]
theorem tup_of (ds : List D) : gTuple [.lst ds] = some (.tup ds) := rfl
end LW

set_option maxRecDepth 100000
set_option maxHeartbeats 4000000
namespace LW
open PySem PySem.Spec PyProof.Rows L2 DL
/-! ### rows, as the laws of part 8 draw them -/
/-! ### names and entries -/
def pool0a : List Str := ["f", "g", "h", "ab", "zz", "go", "longname", "n"]
def pool0b : List Str := ["nothings", "a", "back", "meet", "again", "behind", "either", "step"]
def pool0c : List Str := ["s", "r", "t", "teste", "testo", "fused", "ax", "bx"]
def pool0d : List Str := ["cx", "dx", "ex", "fx", "gx", "hx", "ix", "jx"]
def pool0e : List Str := ["kx", "lx", "mx", "nx", "ox", "px", "qx", "rx"]
def pool0f : List Str := ["sx", "tx"]
def pool0 : List Str := pool0a ++ pool0b ++ pool0c ++ pool0d ++ pool0e ++ pool0f
abbrev Ent := Str × List Nat
def txD (xs : List Str) : List D := xs.map D.str
theorem tx_len (xs : List Str) : (txD xs).length = xs.length := List.length_map _
/-- entries of steps over v stands: names that are let, all unlike, and rows -/
structure Ens (v : Nat) (es : List Ent) : Prop where
  nd : (es.map (·.1)).Nodup
  nm : ∀ e ∈ es, e.1 ∈ pool0
  rw : ∀ e ∈ es, Good v e.2
end LW

set_option maxRecDepth 100000
set_option maxHeartbeats 4000000
namespace LW
open PySem PySem.Spec PyProof.Rows L2 DL
/-! ### steps, as they are made of what is given -/
end LW

set_option maxRecDepth 100000
set_option maxHeartbeats 4000000
namespace LW
open PySem PySem.Spec PyProof.Rows L2 DL
/-! ### the law's refinement: lots led back, then met -/
/-- lots, all unlike, over v stands -/
structure Lo (v : Nat) (ls : List Nat) : Prop where
  nd : ls.Nodup
  lt : ∀ x ∈ ls, x < 2 ^ v
theorem Lo.len {v : Nat} {ls : List Nat} (h : Lo v ls) : ls.length ≤ 2 ^ v := nodup_len h.nd h.lt
def addB (l : Nat) : List (List Nat) → List Nat → List Nat
  | [], ls => ls
  | r :: rs, ls => addB l rs (if Bk r l ∈ ls then ls else ls ++ [Bk r l])
def clo (rs : List (List Nat)) : Nat → Nat → List Nat → List Nat
  | 0, _, ls => ls
  | n + 1, a, ls => match ls[a]? with
    | none => ls
    | some l => clo rs n (a + 1) (addB l rs ls)
end LW

set_option maxRecDepth 100000
set_option maxHeartbeats 4000000
namespace LW
open PySem PySem.Spec PyProof.Rows L2 DL
theorem comp_anyS {α : Type} {A : D → DEnv → Option DEnv} {t : DT} {el : DE} {vs : List Nat} {δ : DEnv} (it : α → D) (Γ : α → DEnv) (g : α → D) (p : α → Bool) (hv : vsFree vs δ = true) (hA : ∀ k, A (it k) (blkEnv vs δ) = some (Γ k)) (hb : ∀ k, backEnv δ (Γ k) = δ) : ∀ (ls : List α) (acc : List D), acc.length + ls.length ≤ 4096 →
    (∀ k ∈ ls, t (Γ k) = .ok (p k) (Γ k) ∧ (p k = true → el (Γ k) = .ok (g k) (Γ k))) → compL A t el vs (ls.map it) δ acc = .ok (.lst (acc ++ (ls.filter p).map g)) δ
  | [], acc, _, _ => by show EO.ok (D.lst acc) δ = _; simp
  | k :: ls, acc, hl, h => by
    have hl' : acc.length + (ls.length + 1) ≤ 4096 := hl
    obtain ⟨h1, h2⟩ := h k List.mem_cons_self
    rw [List.map_cons]
    cases q : p k with
    | false =>
      rw [q] at h1
      rw [c_skip A t el vs hv (hA k) h1, hb, comp_anyS it Γ g p hv hA hb ls acc (by omega) fun j hj => h j (List.mem_cons_of_mem _ hj), List.filter_cons_of_neg (by rw [q]; exact Bool.false_ne_true)]
    | true =>
      rw [q] at h1
      rw [c_turn A t el vs hv (hA k) h1 (h2 q) (by rw [sizeLine_eq]; omega), hb, comp_anyS it Γ g p hv hA hb ls (acc ++ [g k]) (by rw [List.length_append]; show acc.length + 1 + ls.length ≤ _; omega) fun j hj => h j (List.mem_cons_of_mem _ hj), List.filter_cons_of_pos q, List.map_cons, List.append_assoc]
      rfl
theorem filter_yesS {α : Type} (l : List α) : l.filter (fun _ => true) = l := List.filter_eq_self.mpr fun _ _ => rfl
/-! ### the program's refinement: reasons, one after the other -/
structure Rsn where
  lot : Nat
  x : Str ⊕ Nat
  y : Nat
end LW

set_option maxRecDepth 100000
set_option maxHeartbeats 4000000
namespace LW
open PySem PySem.Spec PyProof.Rows L2 DL
end LW

set_option maxRecDepth 100000
set_option maxHeartbeats 4000000
namespace LW
open PySem PySem.Spec PyProof.Rows L2 DL
/-! ### the refinement is the least that is closed, and the law's is the same -/
def ClM (P : Nat → Prop) : Prop := ∀ a b, P a → P b → P (a &&& b)
/-! the law's meets -/
/-! the law's backs -/
/-! the program's lots -/
def ClE (es : List Ent) (P : Nat → Prop) : Prop := ∀ e ∈ es, ∀ x, P x → P (Bk e.2 x)
end LW

set_option maxRecDepth 100000
set_option maxHeartbeats 4000000
namespace LW
open PySem PySem.Spec PyProof.Rows L2 DL
/-! ### the program's whole refinement -/
/-- the law's lots of the whole refinement -/
def rfM (v : Nat) (es : List Ent) (ms : List Nat) : List Nat := metS v (clo (es.map (·.2)) (2 ^ v) 0 ms)
end LW

set_option maxRecDepth 100000
set_option maxHeartbeats 4000000
namespace LW
open PySem PySem.Spec PyProof.Rows L2 DL
/-! ### reasons that hold, one after the other -/
def ROk (v : Nat) (es : List Ent) (h : List Nat) (r : Rsn) : Prop := r.lot ∉ h ∧ r.lot < 2 ^ v ∧ r.y ∈ h ∧ match r.x with
  | .inl nm => ∃ row, (nm, row) ∈ es ∧ r.lot = Bk row r.y
  | .inr o => o ∈ h ∧ r.lot = o &&& r.y
def Chn (v : Nat) (es : List Ent) : List Nat → List Rsn → Prop
  | _, [] => True
  | h, r :: t => ROk v es h r ∧ Chn v es (h ++ [r.lot]) t
/-! ### the law's word for a reason -/
theorem eq_str (neg : Bool) (x y : Str) (hx : PyData.strOk x = true) (hy : PyData.strOk y = true) : gEq neg (.str x) (.str y) = some (.bl (if neg then !decide (x = y) else decide (x = y))) := by
  have s {z : Str} (hz : PyData.strOk z = true) : SeqAt.shaped (.str z) = true := by unfold SeqAt.shaped; simp [PyData.canLay0, PyData.depth, hz]
  unfold gEq
  simp only [toPy, s hx, s hy, and_self, if_true, PyData.eqv]
  cases neg <;> congr 2 <;> first | rfl | (rw [Bool.eq_iff_iff]; simp)
end LW

set_option maxRecDepth 100000
set_option maxHeartbeats 4000000
namespace LW
open PySem PySem.Spec PyProof.Rows L2 DL
/-! ### the law's word for all reasons -/
/-- what is known of the lots and reasons that the program comes to -/
structure Run (v : Nat) (es : List Ent) (ms : List Nat) (H : List Nat) (R : List Rsn) : Prop where
  lo : Lo v H
  ap : H = ms ++ R.map (·.lot)
  top : 2 ^ v - 1 ∈ H
  be : ClE es (· ∈ H)
  me : ClM (· ∈ H)
  ch : Chn v es ms R
  so : sortN H = rfM v es ms
theorem Run.len {v : Nat} {es : List Ent} {ms H : List Nat} {R : List Rsn} (u : Run v es ms H R) : ms.length + R.length ≤ 2 ^ v := by
  have := u.lo.len
  rw [u.ap, List.length_append, List.length_map] at this
  exact this
end LW

set_option maxRecDepth 100000
set_option maxHeartbeats 4000000
namespace LW
open PySem PySem.Spec PyProof.Rows L2 DL
/-! ### the program's word for a reason -/
end LW

set_option maxRecDepth 100000
set_option maxHeartbeats 4000000
namespace LW
open PySem PySem.Spec PyProof.Rows L2 DL
/-! ### names drawn, steps drawn by them -/
def poolA : List Str := ["f", "g", "h", "ab", "zz", "go", "longname", "n", "nothings", "a"]
def poolB : List Str := ["r", "s", "t", "again", "step", "either", "behind", "back", "meet", "f"]
def pool10 : List Str := ["f", "g", "h", "ab", "zz", "go", "longname", "n", "nothings", "a", "r", "s", "t", "again", "step", "either", "behind", "back", "meet"]
theorem poolA_nd : poolA.Nodup := by decide +kernel
theorem poolB_nd : poolB.Nodup := by decide +kernel
theorem poolA_sub : ∀ x ∈ poolA, x ∈ pool10 := by decide +kernel
theorem poolB_sub : ∀ x ∈ poolB, x ∈ pool10 := by decide +kernel
theorem nm_step (many : Nat) (d : D) (h : Hand d) (nm pool : List Str) (hp : 0 < pool.length) (hpl : pool.length ≤ 17) (hl : nm.length ≤ 20) (hnd : (nm ++ pool).Nodup) (hnm : ∀ x ∈ nm ++ pool, x ∈ pool10) (s4 s5 : Sl) (h4 : Pv s4) (h5 : Pv s5) :
    ∃ d' x pool' s5', Hand d' ∧ Pv s5' ∧ pool'.length + 1 = pool.length ∧ ((nm ++ [x]) ++ pool').Nodup ∧ (∀ y ∈ (nm ++ [x]) ++ pool', y ∈ pool10) ∧
    B__law_names_0 [.rf d, .val (.int (many : Int)), .val (.lst (txD pool)), .own (.lst (txD nm)), s4, s5] = .nx [.rf d', .val (.int (many : Int)), .val (.lst (txD pool')), .own (.lst (txD (nm ++ [x]))), s4, s5'] := by
  obtain ⟨k, d1, e1, hd1, hk⟩ := take_nat d pool.length h hp (by omega)
  have ln : lenD (.lst (txD pool)) = some pool.length := by
    have := sq_len false (txD pool)
    rw [tx_len] at this
    exact this
  have ix : idxD (.lst (txD pool)) (.int (k : Int)) = some (.str pool[k]) := ix_any false (by
    show (pool.map D.str)[k]? = _
    rw [List.getElem?_map, List.getElem?_eq_getElem hk]; rfl)
  have lz : (txD nm).length < sizeLine := by rw [tx_len, sizeLine_eq]; omega
  have sa : ∀ δ x, saK3 3 x δ (some (.lst (txD nm))) = oNx (putV 3 (.lst (txD nm ++ [x])) δ) := fun δ x => a_sa3 _ _ _ _ lz
  have ra : txD nm ++ [D.str pool[k]] = txD (nm ++ [pool[k]]) := by unfold txD; rw [List.map_append]; rfl
  have c1 : cutL (txD pool) none (some (k : Int)) = txD (pool.take k) := by rw [cutL_take _ _ (by rw [tx_len]; omega)]; unfold txD; rw [List.map_take]
  have ck : ((k : Int) + 1) = ((k + 1 : Nat) : Int) := by omega
  have c2 : cutL (txD pool) (some ((k + 1 : Nat) : Int)) none = txD (pool.drop (k + 1)) := by rw [cutL_drop _ _ (by rw [tx_len]; omega)]; unfold txD; rw [List.map_drop]
  have ga : gAdd (.lst (txD (pool.take k))) (.lst (txD (pool.drop (k + 1)))) = some (.lst (txD (pool.take k ++ pool.drop (k + 1)))) := by
    show (if (txD (pool.take k)).length + (txD (pool.drop (k + 1))).length ≤ sizeLine then some (D.lst (txD (pool.take k) ++ txD (pool.drop (k + 1)))) else none) = _
    rw [if_pos (by rw [tx_len, tx_len, List.length_take, List.length_drop, sizeLine_eq]; omega)]
    unfold txD
    rw [List.map_append]
  have add1' : gAdd (.int (k : Int)) (.int 1) = some (.int ((k + 1 : Nat) : Int)) := by rw [← ck]; rfl
  have pm : (pool[k] :: (pool.take k ++ pool.drop (k + 1))).Perm pool := by
    refine (List.perm_middle (a := pool[k]) (l₁ := pool.take k) (l₂ := pool.drop (k + 1))).symm.trans ?_
    rw [← List.drop_eq_getElem_cons hk, List.take_append_drop]
  have pm2 : ((nm ++ [pool[k]]) ++ (pool.take k ++ pool.drop (k + 1))).Perm (nm ++ pool) := by
    rw [List.append_assoc]
    exact pm.append_left _
  refine ⟨d1, pool[k], pool.take k ++ pool.drop (k + 1), .val (.int (k : Int)), hd1, .inr ⟨_, rfl⟩, ?_, pm2.nodup_iff.mpr hnd, fun x hx => hnm x (pm2.mem_iff.mp hx), ?_⟩
  · have := pm.length_eq
    rw [List.length_cons] at this
    exact this
  · simp -implicitDefEqProofs only [B__law_names_0, a_seq, a_expr, a_ret, a_retO, a_set, a_setO, a_if, a_unp, a_for, a_nil, a_retN, a_then_0, a_then_1, a_then_2, a_then_3, a_sK_0, a_sK_1, a_ifS_0, a_ifS_1, a_ifS_2, a_k_0, a_k_1, a_k_2, a_k_3, a_k_4, a_k_5, a_k_6, a_setV, a_setOd, a_setVK_0, a_setVK_1, a_setVK_2, a_setVK_3, a_setVK_4, a_setVK_5, a_c, a_var, a_varK_0, a_varK_1, a_bin, a_binK_0, a_binK_1, a_binK_2, a_binK_3, a_oE_0, a_oE_1, a_un, a_unK_0, a_unK_1, a_unK_2, a_unK_3, a_test, a_tru, a_not, a_asB_0, a_asB_1, a_asB_2, a_asB_3, a_lst_0, a_lst_1, a_and, a_or, a_andK_0, a_andK_1, a_andK_2, a_andK_3, a_andK_4, a_andK_5, a_dIf, a_tand, a_tor, a_tnot, a_ifK_0, a_ifK_1, a_ifK_2, a_ifK_3, a_ifK_4, a_cons, a_consK_0, a_consK_1, a_consK_2, a_consK_3, a_consK_4, a_refA, a_refK_0, a_refK_1, a_refK_2, a_cb, a_tup, a_dLst, a_vals0, a_vals1, a_vals2, a_vals3, a_vals4, call_eq, callO_eq, a_call1, a_call2, a_call3, a_call4, a_rf0, a_rf1, a_rf2, a_rfK_0, a_rfK_1, a_rfK_2, a_end0_0, a_end0_1, a_end0_2, a_end0_3, a_end1, a_put1_0, a_put1_1, a_look, a_lkK_0, a_lkK_1, a_lkK_2, a_ixV, a_ixK_0, a_ixK_1, a_ixK_2, a_lenV, a_truV, a_len_0, a_len_1, a_len_2, a_len_3, a_len_4, a_it, a_rg1, a_rgL, a_en, a_zp, a_itK_0, a_itK_1, a_itK_2, a_itE_0, a_itE_1, a_comp, a_compK_0, a_compK_1, a_isi, a_isO, a_gI_0, a_gI_1, a_gI_2, List.getElem?_cons_zero, List.getElem?_cons_succ, List.set_cons_zero, List.set_cons_succ, Option.bind_some, Option.map_some, f_nil, f_cons, f_some, f_nx, f_ct, f_bk, f_rt, f_ex, a_putV, a_pv0, a_pv1, a_put, a_sp0, a_sp1, a_sp2, a_sp3, a_sp4, a_app, a_sa1, a_sa2, a_aug, a_au1, a_au2, a_au3, gEq_int, gNe_int, ct_rf, ct_own, if_true, if_false, Bool.false_eq_true, a_try, a_tryK_0, a_tryK_1, a_tryK_2, a_tryH_0, a_tryH_1, a_tryK2_0, a_tryK2_1, a_hdS_0, a_hdS_1, a_compX, a_compKX_0, a_fld, a_meth, a_prop, a_propK, a_propE, a_make, a_makeK, a_makeE, a_putF, a_pfK, a_lkv, a_lkvK, a_dct1, a_dct1K, a_dct1K2, a_dct2, a_key, a_putK, a_pk0, a_pk1, a_pk2, a_rg2, a_rg2K, a_rg2K2, a_oL, a_raiseF, a_xr1, a_xr2, a_rgDn, a_xf, a_sortK, a_listK, a_lsK, a_tix, a_tixK, a_isX, a_isxK, a_binV, a_get2, a_g2K, a_ixk, a_ixkK, a_ixkE, a_sl, a_slK0, a_slK1, a_slH, a_slL, a_slE, a_slLst, a_slTup, a_cw, a_tupV, a_tpK, a_cwb, a_ch, a_chK, a_ch1, a_ch2, a_ch2', a_ch3, ln, e1, set_nr (pv_nr h5), ix, sa, ra, c1, add1', c2, ga]
theorem names_go (p : List Str) (p0 : p.length = 10) (nd : p.Nodup) (sub : ∀ x ∈ p, x ∈ pool10) (many : Nat) (hm : many ≤ 10) (d : D) (h : Hand d) : ∃ xs d1 pool s4 s5, Hand d1 ∧ xs.length = many ∧ xs.Nodup ∧ (∀ x ∈ xs, x ∈ pool10) ∧
    forL (setV 4) B__law_names_0 (rgF 0 many) [.rf d, .val (.int (many : Int)), .val (.lst (txD p)), .own (.lst []), .un, .un] = .nx [.rf d1, .val (.int (many : Int)), .val (.lst (txD pool)), .own (.lst (txD xs)), s4, s5] := by
  obtain ⟨δ', e, d1, nm, pool, s4, s5, hd1, hl, hpl, hnd, hnm, h4, h5, rfl⟩ := for_pos (A := setV 4) (f := B__law_names_0) (fun pre δ => ∃ d nm pool s4 s5, Hand d ∧ nm.length = pre.length ∧ pool.length + pre.length = 10 ∧ (nm ++ pool).Nodup ∧ (∀ x ∈ nm ++ pool, x ∈ pool10) ∧ Pv s4 ∧ Pv s5 ∧ δ = [.rf d, .val (.int (many : Int)), .val (.lst (txD pool)), .own (.lst (txD nm)), s4, s5]) (rgF 0 many) (rgF 0 many) [] [.rf d, .val (.int (many : Int)), .val (.lst (txD p)), .own (.lst []), .un, .un] rfl
    ⟨d, [], p, .un, .un, h, rfl, p0, nd, fun x hx => sub x hx, .inl rfl, .inl rfl, rfl⟩ fun pre z r δ hz ⟨d, nm, pool, s4, s5, hd, hl, hpl, hnd, hnm, h4, h5, eδ⟩ => by
      subst eδ
      obtain ⟨k, hk, rfl⟩ := mem_rgF (show z ∈ rgF 0 many by rw [hz]; exact List.mem_append_right _ List.mem_cons_self)
      have hlen := congrArg List.length hz
      rw [rgF_len, List.length_append, List.length_cons] at hlen
      obtain ⟨d', x, pool', s5', hd', h5', hp', hnd', hnm', e⟩ := nm_step many d hd nm pool (by omega) (by omega) (by omega) hnd hnm (.val (.int (k : Int))) s5 (.inr ⟨_, rfl⟩) h5
      exact ⟨[.rf d, .val (.int (many : Int)), .val (.lst (txD pool)), .own (.lst (txD nm)), .val (.int (k : Int)), s5], _, by rcases h4 with rfl | ⟨y, rfl⟩ <;> rfl, e, d', nm ++ [x], pool', _, s5', hd', by rw [List.length_append, List.length_append, hl]; rfl, by rw [List.length_append]; show pool'.length + (pre.length + 1) = 10; omega, hnd', hnm', .inr ⟨_, rfl⟩, h5', rfl⟩
  rw [rgF_len] at hl
  exact ⟨nm, d1, pool, s4, s5, hd1, hl, (List.nodup_append.mp hnd).1, fun x hx => hnm _ (List.mem_append_left _ hx), e⟩
theorem names_ev (many : Nat) (hm : many ≤ 10) (d : D) (h : Hand d) : ∃ xs d', fn__law_names [d, .int (many : Int)] = .ret (.lst (txD xs)) [d'] ∧ Hand d' ∧ xs.length = many ∧ xs.Nodup ∧ ∀ x ∈ xs, x ∈ pool10 := by
  have i := itF many (by omega)
  obtain ⟨t, d0, e0, hd0, ht⟩ := take_nat d 2 h (by decide) (by decide)
  have e0 : fn__law_take [d, .int 2] = .ret (.int (t : Int)) [d0] := e0
  rw [o__law_names]
  unfold F__law_names
  rw [a_seq]
  have ep : ∀ δ, (dC (.lst [.str "f", .str "g", .str "h", .str "ab", .str "zz", .str "go", .str "longname", .str "n", .str "nothings", .str "a"]) : DE) δ = .ok (.lst (txD poolA)) δ := fun δ => rfl
  have eq : ∀ δ, (dC (.lst [.str "r", .str "s", .str "t", .str "again", .str "step", .str "either", .str "behind", .str "back", .str "meet", .str "f"]) : DE) δ = .ok (.lst (txD poolB)) δ := fun δ => rfl
  rw [a_set, ep]
  have qB : ([.str "r", .str "s", .str "t", .str "again", .str "step", .str "either", .str "behind", .str "back", .str "meet", .str "f"] : List D) = txD poolB := rfl
  by_cases z : t = 0
  · subst z
    obtain ⟨nm, d1, pool, s4, s5, hd1, hl, hnd, hnm, e⟩ := names_go poolA rfl poolA_nd poolA_sub many hm d0 hd0
    refine ⟨nm, d1, ?_, hd1, hl, hnd, hnm⟩
    simp -implicitDefEqProofs only [a_seq, a_expr, a_ret, a_retO, a_set, a_setO, a_if, a_unp, a_for, a_nil, a_retN, a_then_0, a_then_1, a_then_2, a_then_3, a_sK_0, a_sK_1, a_ifS_0, a_ifS_1, a_ifS_2, a_k_0, a_k_1, a_k_2, a_k_3, a_k_4, a_k_5, a_k_6, a_setV, a_setOd, a_setVK_0, a_setVK_1, a_setVK_2, a_setVK_3, a_setVK_4, a_setVK_5, a_c, a_var, a_varK_0, a_varK_1, a_bin, a_binK_0, a_binK_1, a_binK_2, a_binK_3, a_oE_0, a_oE_1, a_un, a_unK_0, a_unK_1, a_unK_2, a_unK_3, a_test, a_tru, a_not, a_asB_0, a_asB_1, a_asB_2, a_asB_3, a_lst_0, a_lst_1, a_and, a_or, a_andK_0, a_andK_1, a_andK_2, a_andK_3, a_andK_4, a_andK_5, a_dIf, a_tand, a_tor, a_tnot, a_ifK_0, a_ifK_1, a_ifK_2, a_ifK_3, a_ifK_4, a_cons, a_consK_0, a_consK_1, a_consK_2, a_consK_3, a_consK_4, a_refA, a_refK_0, a_refK_1, a_refK_2, a_cb, a_tup, a_dLst, a_vals0, a_vals1, a_vals2, a_vals3, a_vals4, call_eq, callO_eq, a_call1, a_call2, a_call3, a_call4, a_rf0, a_rf1, a_rf2, a_rfK_0, a_rfK_1, a_rfK_2, a_end0_0, a_end0_1, a_end0_2, a_end0_3, a_end1, a_put1_0, a_put1_1, a_look, a_lkK_0, a_lkK_1, a_lkK_2, a_ixV, a_ixK_0, a_ixK_1, a_ixK_2, a_lenV, a_truV, a_len_0, a_len_1, a_len_2, a_len_3, a_len_4, a_it, a_rg1, a_rgL, a_en, a_zp, a_itK_0, a_itK_1, a_itK_2, a_itE_0, a_itE_1, a_comp, a_compK_0, a_compK_1, a_isi, a_isO, a_gI_0, a_gI_1, a_gI_2, List.getElem?_cons_zero, List.getElem?_cons_succ, List.set_cons_zero, List.set_cons_succ, Option.bind_some, Option.map_some, f_nil, f_cons, f_some, f_nx, f_ct, f_bk, f_rt, f_ex, a_putV, a_pv0, a_pv1, a_put, a_sp0, a_sp1, a_sp2, a_sp3, a_sp4, a_app, a_sa1, a_sa2, a_aug, a_au1, a_au2, a_au3, gEq_int, gNe_int, ct_rf, ct_own, if_true, if_false, Bool.false_eq_true, a_try, a_tryK_0, a_tryK_1, a_tryK_2, a_tryH_0, a_tryH_1, a_tryK2_0, a_tryK2_1, a_hdS_0, a_hdS_1, a_compX, a_compKX_0, a_fld, a_meth, a_prop, a_propK, a_propE, a_make, a_makeK, a_makeE, a_putF, a_pfK, a_lkv, a_lkvK, a_dct1, a_dct1K, a_dct1K2, a_dct2, a_key, a_putK, a_pk0, a_pk1, a_pk2, a_rg2, a_rg2K, a_rg2K2, a_oL, a_raiseF, a_xr1, a_xr2, a_rgDn, a_xf, a_sortK, a_listK, a_lsK, a_tix, a_tixK, a_isX, a_isxK, a_binV, a_get2, a_g2K, a_ixk, a_ixkK, a_ixkE, e0, nz0, gLst0, i, e]
    rfl
  · obtain ⟨nm, d1, pool, s4, s5, hd1, hl, hnd, hnm, e⟩ := names_go poolB rfl poolB_nd poolB_sub many hm d0 hd0
    refine ⟨nm, d1, ?_, hd1, hl, hnd, hnm⟩
    simp -implicitDefEqProofs only [a_seq, a_expr, a_ret, a_retO, a_set, a_setO, a_if, a_unp, a_for, a_nil, a_retN, a_then_0, a_then_1, a_then_2, a_then_3, a_sK_0, a_sK_1, a_ifS_0, a_ifS_1, a_ifS_2, a_k_0, a_k_1, a_k_2, a_k_3, a_k_4, a_k_5, a_k_6, a_setV, a_setOd, a_setVK_0, a_setVK_1, a_setVK_2, a_setVK_3, a_setVK_4, a_setVK_5, a_c, a_var, a_varK_0, a_varK_1, a_bin, a_binK_0, a_binK_1, a_binK_2, a_binK_3, a_oE_0, a_oE_1, a_un, a_unK_0, a_unK_1, a_unK_2, a_unK_3, a_test, a_tru, a_not, a_asB_0, a_asB_1, a_asB_2, a_asB_3, a_lst_0, a_lst_1, a_and, a_or, a_andK_0, a_andK_1, a_andK_2, a_andK_3, a_andK_4, a_andK_5, a_dIf, a_tand, a_tor, a_tnot, a_ifK_0, a_ifK_1, a_ifK_2, a_ifK_3, a_ifK_4, a_cons, a_consK_0, a_consK_1, a_consK_2, a_consK_3, a_consK_4, a_refA, a_refK_0, a_refK_1, a_refK_2, a_cb, a_tup, a_dLst, a_vals0, a_vals1, a_vals2, a_vals3, a_vals4, call_eq, callO_eq, a_call1, a_call2, a_call3, a_call4, a_rf0, a_rf1, a_rf2, a_rfK_0, a_rfK_1, a_rfK_2, a_end0_0, a_end0_1, a_end0_2, a_end0_3, a_end1, a_put1_0, a_put1_1, a_look, a_lkK_0, a_lkK_1, a_lkK_2, a_ixV, a_ixK_0, a_ixK_1, a_ixK_2, a_lenV, a_truV, a_len_0, a_len_1, a_len_2, a_len_3, a_len_4, a_it, a_rg1, a_rgL, a_en, a_zp, a_itK_0, a_itK_1, a_itK_2, a_itE_0, a_itE_1, a_comp, a_compK_0, a_compK_1, a_isi, a_isO, a_gI_0, a_gI_1, a_gI_2, List.getElem?_cons_zero, List.getElem?_cons_succ, List.set_cons_zero, List.set_cons_succ, Option.bind_some, Option.map_some, f_nil, f_cons, f_some, f_nx, f_ct, f_bk, f_rt, f_ex, a_putV, a_pv0, a_pv1, a_put, a_sp0, a_sp1, a_sp2, a_sp3, a_sp4, a_app, a_sa1, a_sa2, a_aug, a_au1, a_au2, a_au3, gEq_int, gNe_int, ct_rf, ct_own, if_true, if_false, Bool.false_eq_true, a_try, a_tryK_0, a_tryK_1, a_tryK_2, a_tryH_0, a_tryH_1, a_tryK2_0, a_tryK2_1, a_hdS_0, a_hdS_1, a_compX, a_compKX_0, a_fld, a_meth, a_prop, a_propK, a_propE, a_make, a_makeK, a_makeE, a_putF, a_pfK, a_lkv, a_lkvK, a_dct1, a_dct1K, a_dct1K2, a_dct2, a_key, a_putK, a_pk0, a_pk1, a_pk2, a_rg2, a_rg2K, a_rg2K2, a_oL, a_raiseF, a_xr1, a_xr2, a_rgDn, a_xf, a_sortK, a_listK, a_lsK, a_tix, a_tixK, a_isX, a_isxK, a_binV, a_get2, a_g2K, a_ixk, a_ixkK, a_ixkE, e0, nz t z, eq, qB, gLst0, i, e]
    rfl
end LW

set_option maxRecDepth 100000
set_option maxHeartbeats 4000000
namespace LW
open PySem PySem.Spec PyProof.Rows L2 DL
/-! ### programs, and what they reach in glasses -/
inductive Pg where
  | no | st (s : Str) | be (a b : Pg) | ei (a b : Pg) | ag (a : Pg)
def Pg.sz : Pg → Nat
  | .no => 1
  | .st _ => 1
  | .be a b => a.sz + b.sz + 1
  | .ei a b => a.sz + b.sz + 1
  | .ag a => a.sz + 1
def Pg.dp : Pg → Nat
  | .no => 1
  | .st _ => 1
  | .be a b => max a.dp b.dp + 1
  | .ei a b => max a.dp b.dp + 1
  | .ag a => a.dp + 1
def Pg.gs : Pg → Nat
  | .no => 0
  | .st _ => 0
  | .be a b => max a.gs b.gs
  | .ei a b => max a.gs b.gs
  | .ag a => a.gs + 1
def Pg.In (xs : List Str) : Pg → Prop
  | .no => True
  | .st s => s ∈ xs
  | .be a b => a.In xs ∧ b.In xs
  | .ei a b => a.In xs ∧ b.In xs
  | .ag a => a.In xs
/-- how many of the first v stands are within -/
def cnt : Nat → Nat → Nat
  | 0, _ => 0
  | v + 1, l => cnt v l + if l.testBit v then 1 else 0
section
variable {v : Nat} {ms : List Nat} (F : Fam v ms) (R : Str → List Nat)
include F
end
end LW

set_option maxRecDepth 100000
set_option maxHeartbeats 4000000
namespace LW
open PySem PySem.Spec PyProof.Rows L2 DL
/-! ### programs, programs drawn -/
def pgD : Pg → D
  | .no => .tup [.str "nothing"]
  | .st s => .tup [.str "step", .str s]
  | .be a b => .tup [.str "behind", pgD a, pgD b]
  | .ei a b => .tup [.str "either", pgD a, pgD b]
  | .ag a => .tup [.str "again", pgD a]
theorem sz_ag {s l d : Nat} (hd : 0 < d) (hl : 1 ≤ l) (h : s ≤ (2 * l - 1) * (d - 1 + 1)) : s + 1 ≤ (2 * l - 1) * (d + 1) := by
  obtain ⟨e, rfl⟩ : ∃ e, d = e + 1 := ⟨d - 1, by omega⟩
  rw [show e + 1 - 1 + 1 = e + 1 by omega] at h
  have : (2 * l - 1) * (e + 1 + 1) = (2 * l - 1) * (e + 1) + (2 * l - 1) := Nat.mul_succ _ _
  omega
theorem sz_two {s t a l d : Nat} (ha : 1 ≤ a) (hl : a < l) (h : s ≤ (2 * a - 1) * (d + 1)) (h2 : t ≤ (2 * (l - a) - 1) * (d + 1)) : s + t + 1 ≤ (2 * l - 1) * (d + 1) := by
  have e : 2 * l - 1 = (2 * a - 1) + (2 * (l - a) - 1) + 1 := by omega
  rw [e, Nat.add_mul, Nat.add_mul]
  omega
theorem one_le_sz {l d : Nat} (hl : 1 ≤ l) : 1 ≤ (2 * l - 1) * (d + 1) := Nat.mul_pos (by omega) (by omega)
theorem tx_ix (xs : List Str) {i : Nat} (h : i < xs.length) : idxD (.lst (txD xs)) (.int (i : Int)) = some (.str xs[i]) := ix_any false (by
  show (xs.map D.str)[i]? = _
  rw [List.getElem?_map, List.getElem?_eq_getElem h]; rfl)
theorem tup2 (a b : D) : gTupD [a, b] = some (.tup [a, b]) := if_pos (le_line (by show 2 ≤ 4096; decide))
theorem tup3 (a b c : D) : gTupD [a, b, c] = some (.tup [a, b, c]) := if_pos (le_line (by show 3 ≤ 4096; decide))
theorem tup1 (a : D) : gTupD [a] = some (.tup [a]) := if_pos (le_line (by show 1 ≤ 4096; decide))
theorem call_r3 (e : List Nat → DEnv → FO → EO D) (fn : List D → FO) (j : Nat) (a b c : D) (δ : DEnv) : callK e [true, false, false, false] [] fn (.ok [.r j, .v a, .v b, .v c] δ) = rfK e fn j [a, b, c] δ (δ[j]?.bind Sl.cont) := rf_eq δ j e fn [.v a, .v b, .v c] [false, false, false] [a, b, c] rfl rfl rfl
theorem program_ev (xs : List Str) (hx : 0 < xs.length) (hx2 : xs.length ≤ 64) : ∀ (n l d : Nat) (h : D), Hand h → 1 ≤ l → l ≤ 64 → d ≤ 64 → l + d ≤ n → ∃ p h', fn__law_program n [h, .lst (txD xs), .int (l : Int), .int (d : Int)] = .ret (pgD p) [h'] ∧ Hand h' ∧ p.sz ≤ (2 * l - 1) * (d + 1) ∧ p.dp ≤ l + d ∧ p.gs ≤ d ∧ p.In xs
  | 0, l, d, h, hh, h1, h2, h3, h4 => by omega
  | n + 1, l, d, h, hh, h1, h2, h3, h4 => by
    obtain ⟨k, d1, e1, hd1, hk⟩ := take_nat h 8 hh (by decide) (by decide)
    have e1 : fn__law_take [h, .int 8] = .ret (.int (k : Int)) [d1] := e1
    by_cases A : 0 < d ∧ k < 2
    · obtain ⟨p, d2, e2, hd2, q1, q2, q3, q4⟩ := program_ev xs hx hx2 n l (d - 1) d1 hd1 h1 h2 (by omega) (by omega)
      have c1 : decide ((0 : Int) < (d : Int)) = true := decide_eq_true (by omega)
      have c2 : decide ((k : Int) < 2) = true := decide_eq_true (by omega)
      have c3 : ((d : Int) - 1) = ((d - 1 : Nat) : Int) := by omega
      refine ⟨.ag p, d2, ?_, hd2, sz_ag A.1 h1 q1, by show p.dp + 1 ≤ _; omega, by show p.gs + 1 ≤ _; omega, q4⟩
      rw [o__law_program]
      simp -implicitDefEqProofs only [F__law_program, a_seq, a_expr, a_ret, a_retO, a_set, a_setO, a_if, a_unp, a_for, a_nil, a_retN, a_then_0, a_then_1, a_then_2, a_then_3, a_sK_0, a_sK_1, a_ifS_0, a_ifS_1, a_ifS_2, a_k_0, a_k_1, a_k_2, a_k_3, a_k_4, a_k_5, a_k_6, a_setV, a_setOd, a_setVK_0, a_setVK_1, a_setVK_2, a_setVK_3, a_setVK_4, a_setVK_5, a_c, a_var, a_varK_0, a_varK_1, a_bin, a_binK_0, a_binK_1, a_binK_2, a_binK_3, a_oE_0, a_oE_1, a_un, a_unK_0, a_unK_1, a_unK_2, a_unK_3, a_test, a_tru, a_not, a_asB_0, a_asB_1, a_asB_2, a_asB_3, a_lst_0, a_lst_1, a_and, a_or, a_andK_0, a_andK_1, a_andK_2, a_andK_3, a_andK_4, a_andK_5, a_dIf, a_tand, a_tor, a_tnot, a_ifK_0, a_ifK_1, a_ifK_2, a_ifK_3, a_ifK_4, a_cons, a_consK_0, a_consK_1, a_consK_2, a_consK_3, a_consK_4, a_refA, a_refK_0, a_refK_1, a_refK_2, a_cb, a_tup, a_dLst, a_vals0, a_vals1, a_vals2, a_vals3, a_vals4, call_eq, callO_eq, a_call1, a_call2, a_call3, a_call4, a_rf0, a_rf1, a_rf2, a_rfK_0, a_rfK_1, a_rfK_2, a_end0_0, a_end0_1, a_end0_2, a_end0_3, a_end1, a_put1_0, a_put1_1, a_look, a_lkK_0, a_lkK_1, a_lkK_2, a_ixV, a_ixK_0, a_ixK_1, a_ixK_2, a_lenV, a_truV, a_len_0, a_len_1, a_len_2, a_len_3, a_len_4, a_it, a_rg1, a_rgL, a_en, a_zp, a_itK_0, a_itK_1, a_itK_2, a_itE_0, a_itE_1, a_comp, a_compK_0, a_compK_1, a_isi, a_isO, a_gI_0, a_gI_1, a_gI_2, List.getElem?_cons_zero, List.getElem?_cons_succ, List.set_cons_zero, List.set_cons_succ, Option.bind_some, Option.map_some, f_nil, f_cons, f_some, f_nx, f_ct, f_bk, f_rt, f_ex, a_putV, a_pv0, a_pv1, a_put, a_sp0, a_sp1, a_sp2, a_sp3, a_sp4, a_app, a_sa1, a_sa2, a_aug, a_au1, a_au2, a_au3, gEq_int, gNe_int, ct_rf, ct_own, if_true, if_false, Bool.false_eq_true, a_try, a_tryK_0, a_tryK_1, a_tryK_2, a_tryH_0, a_tryH_1, a_tryK2_0, a_tryK2_1, a_hdS_0, a_hdS_1, a_compX, a_compKX_0, a_fld, a_meth, a_prop, a_propK, a_propE, a_make, a_makeK, a_makeE, a_putF, a_pfK, a_lkv, a_lkvK, a_dct1, a_dct1K, a_dct1K2, a_dct2, a_key, a_putK, a_pk0, a_pk1, a_pk2, a_rg2, a_rg2K, a_rg2K2, a_oL, a_raiseF, a_xr1, a_xr2, a_rgDn, a_xf, a_sortK, a_listK, a_lsK, a_tix, a_tixK, a_isX, a_isxK, a_binV, a_get2, a_g2K, a_ixk, a_ixkK, a_ixkE, call_r3, e1, c1, c2, c3, e2, tup2]
      rfl
    · have cA : (decide ((0 : Int) < (d : Int)) = false) ∨ (decide ((0 : Int) < (d : Int)) = true ∧ decide ((k : Int) < 2) = false) := by
        by_cases B : 0 < d
        · exact .inr ⟨decide_eq_true (by omega), decide_eq_false (by omega)⟩
        · exact .inl (decide_eq_false (by omega))
      by_cases B : l < 2
      · obtain rfl : l = 1 := by omega
        have b1 : decide (((1 : Nat) : Int) < 2) = true := by decide
        have tk : ∀ d1, Hand d1 → ∃ (i : Nat) (d2 : D), fn__law_take [d1, .int ((xs.length : Nat) : Int)] = .ret (.int (i : Int)) [d2] ∧ Hand d2 ∧ i < xs.length := fun d1 hd1 => take_nat d1 xs.length hd1 hx (by omega)
        by_cases C : k = 7
        · subst C
          obtain ⟨j, d2, e2, hd2, hj⟩ := take_nat d1 3 hd1 (by decide) (by decide)
          have e2 : fn__law_take [d1, .int 3] = .ret (.int (j : Int)) [d2] := e2
          have s7 : ((((7 : Nat) : Int)) == 7) = true := by decide
          by_cases J : j = 0
          · subst J
            have s0 : ((((0 : Nat) : Int)) == 0) = true := by decide
            refine ⟨.no, d2, ?_, hd2, one_le_sz h1, by show 1 ≤ _; omega, Nat.zero_le _, True.intro⟩
            rw [o__law_program]
            rcases cA with c1 | ⟨c1, c2⟩
            · simp -implicitDefEqProofs only [F__law_program, a_seq, a_expr, a_ret, a_retO, a_set, a_setO, a_if, a_unp, a_for, a_nil, a_retN, a_then_0, a_then_1, a_then_2, a_then_3, a_sK_0, a_sK_1, a_ifS_0, a_ifS_1, a_ifS_2, a_k_0, a_k_1, a_k_2, a_k_3, a_k_4, a_k_5, a_k_6, a_setV, a_setOd, a_setVK_0, a_setVK_1, a_setVK_2, a_setVK_3, a_setVK_4, a_setVK_5, a_c, a_var, a_varK_0, a_varK_1, a_bin, a_binK_0, a_binK_1, a_binK_2, a_binK_3, a_oE_0, a_oE_1, a_un, a_unK_0, a_unK_1, a_unK_2, a_unK_3, a_test, a_tru, a_not, a_asB_0, a_asB_1, a_asB_2, a_asB_3, a_lst_0, a_lst_1, a_and, a_or, a_andK_0, a_andK_1, a_andK_2, a_andK_3, a_andK_4, a_andK_5, a_dIf, a_tand, a_tor, a_tnot, a_ifK_0, a_ifK_1, a_ifK_2, a_ifK_3, a_ifK_4, a_cons, a_consK_0, a_consK_1, a_consK_2, a_consK_3, a_consK_4, a_refA, a_refK_0, a_refK_1, a_refK_2, a_cb, a_tup, a_dLst, a_vals0, a_vals1, a_vals2, a_vals3, a_vals4, call_eq, callO_eq, a_call1, a_call2, a_call3, a_call4, a_rf0, a_rf1, a_rf2, a_rfK_0, a_rfK_1, a_rfK_2, a_end0_0, a_end0_1, a_end0_2, a_end0_3, a_end1, a_put1_0, a_put1_1, a_look, a_lkK_0, a_lkK_1, a_lkK_2, a_ixV, a_ixK_0, a_ixK_1, a_ixK_2, a_lenV, a_truV, a_len_0, a_len_1, a_len_2, a_len_3, a_len_4, a_it, a_rg1, a_rgL, a_en, a_zp, a_itK_0, a_itK_1, a_itK_2, a_itE_0, a_itE_1, a_comp, a_compK_0, a_compK_1, a_isi, a_isO, a_gI_0, a_gI_1, a_gI_2, List.getElem?_cons_zero, List.getElem?_cons_succ, List.set_cons_zero, List.set_cons_succ, Option.bind_some, Option.map_some, f_nil, f_cons, f_some, f_nx, f_ct, f_bk, f_rt, f_ex, a_putV, a_pv0, a_pv1, a_put, a_sp0, a_sp1, a_sp2, a_sp3, a_sp4, a_app, a_sa1, a_sa2, a_aug, a_au1, a_au2, a_au3, gEq_int, gNe_int, ct_rf, ct_own, if_true, if_false, Bool.false_eq_true, a_try, a_tryK_0, a_tryK_1, a_tryK_2, a_tryH_0, a_tryH_1, a_tryK2_0, a_tryK2_1, a_hdS_0, a_hdS_1, a_compX, a_compKX_0, a_fld, a_meth, a_prop, a_propK, a_propE, a_make, a_makeK, a_makeE, a_putF, a_pfK, a_lkv, a_lkvK, a_dct1, a_dct1K, a_dct1K2, a_dct2, a_key, a_putK, a_pk0, a_pk1, a_pk2, a_rg2, a_rg2K, a_rg2K2, a_oL, a_raiseF, a_xr1, a_xr2, a_rgDn, a_xf, a_sortK, a_listK, a_lsK, a_tix, a_tixK, a_isX, a_isxK, a_binV, a_get2, a_g2K, a_ixk, a_ixkK, a_ixkE, call_r3, e1, c1, b1, e2, tup1, s7, s0]
              rfl
            · simp -implicitDefEqProofs only [F__law_program, a_seq, a_expr, a_ret, a_retO, a_set, a_setO, a_if, a_unp, a_for, a_nil, a_retN, a_then_0, a_then_1, a_then_2, a_then_3, a_sK_0, a_sK_1, a_ifS_0, a_ifS_1, a_ifS_2, a_k_0, a_k_1, a_k_2, a_k_3, a_k_4, a_k_5, a_k_6, a_setV, a_setOd, a_setVK_0, a_setVK_1, a_setVK_2, a_setVK_3, a_setVK_4, a_setVK_5, a_c, a_var, a_varK_0, a_varK_1, a_bin, a_binK_0, a_binK_1, a_binK_2, a_binK_3, a_oE_0, a_oE_1, a_un, a_unK_0, a_unK_1, a_unK_2, a_unK_3, a_test, a_tru, a_not, a_asB_0, a_asB_1, a_asB_2, a_asB_3, a_lst_0, a_lst_1, a_and, a_or, a_andK_0, a_andK_1, a_andK_2, a_andK_3, a_andK_4, a_andK_5, a_dIf, a_tand, a_tor, a_tnot, a_ifK_0, a_ifK_1, a_ifK_2, a_ifK_3, a_ifK_4, a_cons, a_consK_0, a_consK_1, a_consK_2, a_consK_3, a_consK_4, a_refA, a_refK_0, a_refK_1, a_refK_2, a_cb, a_tup, a_dLst, a_vals0, a_vals1, a_vals2, a_vals3, a_vals4, call_eq, callO_eq, a_call1, a_call2, a_call3, a_call4, a_rf0, a_rf1, a_rf2, a_rfK_0, a_rfK_1, a_rfK_2, a_end0_0, a_end0_1, a_end0_2, a_end0_3, a_end1, a_put1_0, a_put1_1, a_look, a_lkK_0, a_lkK_1, a_lkK_2, a_ixV, a_ixK_0, a_ixK_1, a_ixK_2, a_lenV, a_truV, a_len_0, a_len_1, a_len_2, a_len_3, a_len_4, a_it, a_rg1, a_rgL, a_en, a_zp, a_itK_0, a_itK_1, a_itK_2, a_itE_0, a_itE_1, a_comp, a_compK_0, a_compK_1, a_isi, a_isO, a_gI_0, a_gI_1, a_gI_2, List.getElem?_cons_zero, List.getElem?_cons_succ, List.set_cons_zero, List.set_cons_succ, Option.bind_some, Option.map_some, f_nil, f_cons, f_some, f_nx, f_ct, f_bk, f_rt, f_ex, a_putV, a_pv0, a_pv1, a_put, a_sp0, a_sp1, a_sp2, a_sp3, a_sp4, a_app, a_sa1, a_sa2, a_aug, a_au1, a_au2, a_au3, gEq_int, gNe_int, ct_rf, ct_own, if_true, if_false, Bool.false_eq_true, a_try, a_tryK_0, a_tryK_1, a_tryK_2, a_tryH_0, a_tryH_1, a_tryK2_0, a_tryK2_1, a_hdS_0, a_hdS_1, a_compX, a_compKX_0, a_fld, a_meth, a_prop, a_propK, a_propE, a_make, a_makeK, a_makeE, a_putF, a_pfK, a_lkv, a_lkvK, a_dct1, a_dct1K, a_dct1K2, a_dct2, a_key, a_putK, a_pk0, a_pk1, a_pk2, a_rg2, a_rg2K, a_rg2K2, a_oL, a_raiseF, a_xr1, a_xr2, a_rgDn, a_xf, a_sortK, a_listK, a_lsK, a_tix, a_tixK, a_isX, a_isxK, a_binV, a_get2, a_g2K, a_ixk, a_ixkK, a_ixkE, call_r3, e1, c1, c2, b1, e2, tup1, s7, s0]
              rfl
          · have s0 : (((j : Int)) == 0) = false := beq_eq_false_iff_ne.mpr (by omega)
            obtain ⟨i, d3, e3, hd3, hi⟩ := tk d2 hd2
            have ix := tx_ix xs hi
            refine ⟨.st xs[i], d3, ?_, hd3, one_le_sz h1, by show 1 ≤ _; omega, Nat.zero_le _, List.getElem_mem hi⟩
            rw [o__law_program]
            rcases cA with c1 | ⟨c1, c2⟩
            · simp -implicitDefEqProofs only [F__law_program, a_seq, a_expr, a_ret, a_retO, a_set, a_setO, a_if, a_unp, a_for, a_nil, a_retN, a_then_0, a_then_1, a_then_2, a_then_3, a_sK_0, a_sK_1, a_ifS_0, a_ifS_1, a_ifS_2, a_k_0, a_k_1, a_k_2, a_k_3, a_k_4, a_k_5, a_k_6, a_setV, a_setOd, a_setVK_0, a_setVK_1, a_setVK_2, a_setVK_3, a_setVK_4, a_setVK_5, a_c, a_var, a_varK_0, a_varK_1, a_bin, a_binK_0, a_binK_1, a_binK_2, a_binK_3, a_oE_0, a_oE_1, a_un, a_unK_0, a_unK_1, a_unK_2, a_unK_3, a_test, a_tru, a_not, a_asB_0, a_asB_1, a_asB_2, a_asB_3, a_lst_0, a_lst_1, a_and, a_or, a_andK_0, a_andK_1, a_andK_2, a_andK_3, a_andK_4, a_andK_5, a_dIf, a_tand, a_tor, a_tnot, a_ifK_0, a_ifK_1, a_ifK_2, a_ifK_3, a_ifK_4, a_cons, a_consK_0, a_consK_1, a_consK_2, a_consK_3, a_consK_4, a_refA, a_refK_0, a_refK_1, a_refK_2, a_cb, a_tup, a_dLst, a_vals0, a_vals1, a_vals2, a_vals3, a_vals4, call_eq, callO_eq, a_call1, a_call2, a_call3, a_call4, a_rf0, a_rf1, a_rf2, a_rfK_0, a_rfK_1, a_rfK_2, a_end0_0, a_end0_1, a_end0_2, a_end0_3, a_end1, a_put1_0, a_put1_1, a_look, a_lkK_0, a_lkK_1, a_lkK_2, a_ixV, a_ixK_0, a_ixK_1, a_ixK_2, a_lenV, a_truV, a_len_0, a_len_1, a_len_2, a_len_3, a_len_4, a_it, a_rg1, a_rgL, a_en, a_zp, a_itK_0, a_itK_1, a_itK_2, a_itE_0, a_itE_1, a_comp, a_compK_0, a_compK_1, a_isi, a_isO, a_gI_0, a_gI_1, a_gI_2, List.getElem?_cons_zero, List.getElem?_cons_succ, List.set_cons_zero, List.set_cons_succ, Option.bind_some, Option.map_some, f_nil, f_cons, f_some, f_nx, f_ct, f_bk, f_rt, f_ex, a_putV, a_pv0, a_pv1, a_put, a_sp0, a_sp1, a_sp2, a_sp3, a_sp4, a_app, a_sa1, a_sa2, a_aug, a_au1, a_au2, a_au3, gEq_int, gNe_int, ct_rf, ct_own, if_true, if_false, Bool.false_eq_true, a_try, a_tryK_0, a_tryK_1, a_tryK_2, a_tryH_0, a_tryH_1, a_tryK2_0, a_tryK2_1, a_hdS_0, a_hdS_1, a_compX, a_compKX_0, a_fld, a_meth, a_prop, a_propK, a_propE, a_make, a_makeK, a_makeE, a_putF, a_pfK, a_lkv, a_lkvK, a_dct1, a_dct1K, a_dct1K2, a_dct2, a_key, a_putK, a_pk0, a_pk1, a_pk2, a_rg2, a_rg2K, a_rg2K2, a_oL, a_raiseF, a_xr1, a_xr2, a_rgDn, a_xf, a_sortK, a_listK, a_lsK, a_tix, a_tixK, a_isX, a_isxK, a_binV, a_get2, a_g2K, a_ixk, a_ixkK, a_ixkE, call_r3, e1, c1, b1, e2, tup2, s7, s0, e3, ix, tx_len]
              rfl
            · simp -implicitDefEqProofs only [F__law_program, a_seq, a_expr, a_ret, a_retO, a_set, a_setO, a_if, a_unp, a_for, a_nil, a_retN, a_then_0, a_then_1, a_then_2, a_then_3, a_sK_0, a_sK_1, a_ifS_0, a_ifS_1, a_ifS_2, a_k_0, a_k_1, a_k_2, a_k_3, a_k_4, a_k_5, a_k_6, a_setV, a_setOd, a_setVK_0, a_setVK_1, a_setVK_2, a_setVK_3, a_setVK_4, a_setVK_5, a_c, a_var, a_varK_0, a_varK_1, a_bin, a_binK_0, a_binK_1, a_binK_2, a_binK_3, a_oE_0, a_oE_1, a_un, a_unK_0, a_unK_1, a_unK_2, a_unK_3, a_test, a_tru, a_not, a_asB_0, a_asB_1, a_asB_2, a_asB_3, a_lst_0, a_lst_1, a_and, a_or, a_andK_0, a_andK_1, a_andK_2, a_andK_3, a_andK_4, a_andK_5, a_dIf, a_tand, a_tor, a_tnot, a_ifK_0, a_ifK_1, a_ifK_2, a_ifK_3, a_ifK_4, a_cons, a_consK_0, a_consK_1, a_consK_2, a_consK_3, a_consK_4, a_refA, a_refK_0, a_refK_1, a_refK_2, a_cb, a_tup, a_dLst, a_vals0, a_vals1, a_vals2, a_vals3, a_vals4, call_eq, callO_eq, a_call1, a_call2, a_call3, a_call4, a_rf0, a_rf1, a_rf2, a_rfK_0, a_rfK_1, a_rfK_2, a_end0_0, a_end0_1, a_end0_2, a_end0_3, a_end1, a_put1_0, a_put1_1, a_look, a_lkK_0, a_lkK_1, a_lkK_2, a_ixV, a_ixK_0, a_ixK_1, a_ixK_2, a_lenV, a_truV, a_len_0, a_len_1, a_len_2, a_len_3, a_len_4, a_it, a_rg1, a_rgL, a_en, a_zp, a_itK_0, a_itK_1, a_itK_2, a_itE_0, a_itE_1, a_comp, a_compK_0, a_compK_1, a_isi, a_isO, a_gI_0, a_gI_1, a_gI_2, List.getElem?_cons_zero, List.getElem?_cons_succ, List.set_cons_zero, List.set_cons_succ, Option.bind_some, Option.map_some, f_nil, f_cons, f_some, f_nx, f_ct, f_bk, f_rt, f_ex, a_putV, a_pv0, a_pv1, a_put, a_sp0, a_sp1, a_sp2, a_sp3, a_sp4, a_app, a_sa1, a_sa2, a_aug, a_au1, a_au2, a_au3, gEq_int, gNe_int, ct_rf, ct_own, if_true, if_false, Bool.false_eq_true, a_try, a_tryK_0, a_tryK_1, a_tryK_2, a_tryH_0, a_tryH_1, a_tryK2_0, a_tryK2_1, a_hdS_0, a_hdS_1, a_compX, a_compKX_0, a_fld, a_meth, a_prop, a_propK, a_propE, a_make, a_makeK, a_makeE, a_putF, a_pfK, a_lkv, a_lkvK, a_dct1, a_dct1K, a_dct1K2, a_dct2, a_key, a_putK, a_pk0, a_pk1, a_pk2, a_rg2, a_rg2K, a_rg2K2, a_oL, a_raiseF, a_xr1, a_xr2, a_rgDn, a_xf, a_sortK, a_listK, a_lsK, a_tix, a_tixK, a_isX, a_isxK, a_binV, a_get2, a_g2K, a_ixk, a_ixkK, a_ixkE, call_r3, e1, c1, c2, b1, e2, tup2, s7, s0, e3, ix, tx_len]
              rfl
        · have s7 : (((k : Int)) == 7) = false := beq_eq_false_iff_ne.mpr (by omega)
          obtain ⟨i, d3, e3, hd3, hi⟩ := tk d1 hd1
          have ix := tx_ix xs hi
          refine ⟨.st xs[i], d3, ?_, hd3, one_le_sz h1, by show 1 ≤ _; omega, Nat.zero_le _, List.getElem_mem hi⟩
          rw [o__law_program]
          rcases cA with c1 | ⟨c1, c2⟩
          · simp -implicitDefEqProofs only [F__law_program, a_seq, a_expr, a_ret, a_retO, a_set, a_setO, a_if, a_unp, a_for, a_nil, a_retN, a_then_0, a_then_1, a_then_2, a_then_3, a_sK_0, a_sK_1, a_ifS_0, a_ifS_1, a_ifS_2, a_k_0, a_k_1, a_k_2, a_k_3, a_k_4, a_k_5, a_k_6, a_setV, a_setOd, a_setVK_0, a_setVK_1, a_setVK_2, a_setVK_3, a_setVK_4, a_setVK_5, a_c, a_var, a_varK_0, a_varK_1, a_bin, a_binK_0, a_binK_1, a_binK_2, a_binK_3, a_oE_0, a_oE_1, a_un, a_unK_0, a_unK_1, a_unK_2, a_unK_3, a_test, a_tru, a_not, a_asB_0, a_asB_1, a_asB_2, a_asB_3, a_lst_0, a_lst_1, a_and, a_or, a_andK_0, a_andK_1, a_andK_2, a_andK_3, a_andK_4, a_andK_5, a_dIf, a_tand, a_tor, a_tnot, a_ifK_0, a_ifK_1, a_ifK_2, a_ifK_3, a_ifK_4, a_cons, a_consK_0, a_consK_1, a_consK_2, a_consK_3, a_consK_4, a_refA, a_refK_0, a_refK_1, a_refK_2, a_cb, a_tup, a_dLst, a_vals0, a_vals1, a_vals2, a_vals3, a_vals4, call_eq, callO_eq, a_call1, a_call2, a_call3, a_call4, a_rf0, a_rf1, a_rf2, a_rfK_0, a_rfK_1, a_rfK_2, a_end0_0, a_end0_1, a_end0_2, a_end0_3, a_end1, a_put1_0, a_put1_1, a_look, a_lkK_0, a_lkK_1, a_lkK_2, a_ixV, a_ixK_0, a_ixK_1, a_ixK_2, a_lenV, a_truV, a_len_0, a_len_1, a_len_2, a_len_3, a_len_4, a_it, a_rg1, a_rgL, a_en, a_zp, a_itK_0, a_itK_1, a_itK_2, a_itE_0, a_itE_1, a_comp, a_compK_0, a_compK_1, a_isi, a_isO, a_gI_0, a_gI_1, a_gI_2, List.getElem?_cons_zero, List.getElem?_cons_succ, List.set_cons_zero, List.set_cons_succ, Option.bind_some, Option.map_some, f_nil, f_cons, f_some, f_nx, f_ct, f_bk, f_rt, f_ex, a_putV, a_pv0, a_pv1, a_put, a_sp0, a_sp1, a_sp2, a_sp3, a_sp4, a_app, a_sa1, a_sa2, a_aug, a_au1, a_au2, a_au3, gEq_int, gNe_int, ct_rf, ct_own, if_true, if_false, Bool.false_eq_true, a_try, a_tryK_0, a_tryK_1, a_tryK_2, a_tryH_0, a_tryH_1, a_tryK2_0, a_tryK2_1, a_hdS_0, a_hdS_1, a_compX, a_compKX_0, a_fld, a_meth, a_prop, a_propK, a_propE, a_make, a_makeK, a_makeE, a_putF, a_pfK, a_lkv, a_lkvK, a_dct1, a_dct1K, a_dct1K2, a_dct2, a_key, a_putK, a_pk0, a_pk1, a_pk2, a_rg2, a_rg2K, a_rg2K2, a_oL, a_raiseF, a_xr1, a_xr2, a_rgDn, a_xf, a_sortK, a_listK, a_lsK, a_tix, a_tixK, a_isX, a_isxK, a_binV, a_get2, a_g2K, a_ixk, a_ixkK, a_ixkE, call_r3, e1, c1, b1, tup2, s7, e3, ix, tx_len]
            rfl
          · simp -implicitDefEqProofs only [F__law_program, a_seq, a_expr, a_ret, a_retO, a_set, a_setO, a_if, a_unp, a_for, a_nil, a_retN, a_then_0, a_then_1, a_then_2, a_then_3, a_sK_0, a_sK_1, a_ifS_0, a_ifS_1, a_ifS_2, a_k_0, a_k_1, a_k_2, a_k_3, a_k_4, a_k_5, a_k_6, a_setV, a_setOd, a_setVK_0, a_setVK_1, a_setVK_2, a_setVK_3, a_setVK_4, a_setVK_5, a_c, a_var, a_varK_0, a_varK_1, a_bin, a_binK_0, a_binK_1, a_binK_2, a_binK_3, a_oE_0, a_oE_1, a_un, a_unK_0, a_unK_1, a_unK_2, a_unK_3, a_test, a_tru, a_not, a_asB_0, a_asB_1, a_asB_2, a_asB_3, a_lst_0, a_lst_1, a_and, a_or, a_andK_0, a_andK_1, a_andK_2, a_andK_3, a_andK_4, a_andK_5, a_dIf, a_tand, a_tor, a_tnot, a_ifK_0, a_ifK_1, a_ifK_2, a_ifK_3, a_ifK_4, a_cons, a_consK_0, a_consK_1, a_consK_2, a_consK_3, a_consK_4, a_refA, a_refK_0, a_refK_1, a_refK_2, a_cb, a_tup, a_dLst, a_vals0, a_vals1, a_vals2, a_vals3, a_vals4, call_eq, callO_eq, a_call1, a_call2, a_call3, a_call4, a_rf0, a_rf1, a_rf2, a_rfK_0, a_rfK_1, a_rfK_2, a_end0_0, a_end0_1, a_end0_2, a_end0_3, a_end1, a_put1_0, a_put1_1, a_look, a_lkK_0, a_lkK_1, a_lkK_2, a_ixV, a_ixK_0, a_ixK_1, a_ixK_2, a_lenV, a_truV, a_len_0, a_len_1, a_len_2, a_len_3, a_len_4, a_it, a_rg1, a_rgL, a_en, a_zp, a_itK_0, a_itK_1, a_itK_2, a_itE_0, a_itE_1, a_comp, a_compK_0, a_compK_1, a_isi, a_isO, a_gI_0, a_gI_1, a_gI_2, List.getElem?_cons_zero, List.getElem?_cons_succ, List.set_cons_zero, List.set_cons_succ, Option.bind_some, Option.map_some, f_nil, f_cons, f_some, f_nx, f_ct, f_bk, f_rt, f_ex, a_putV, a_pv0, a_pv1, a_put, a_sp0, a_sp1, a_sp2, a_sp3, a_sp4, a_app, a_sa1, a_sa2, a_aug, a_au1, a_au2, a_au3, gEq_int, gNe_int, ct_rf, ct_own, if_true, if_false, Bool.false_eq_true, a_try, a_tryK_0, a_tryK_1, a_tryK_2, a_tryH_0, a_tryH_1, a_tryK2_0, a_tryK2_1, a_hdS_0, a_hdS_1, a_compX, a_compKX_0, a_fld, a_meth, a_prop, a_propK, a_propE, a_make, a_makeK, a_makeE, a_putF, a_pfK, a_lkv, a_lkvK, a_dct1, a_dct1K, a_dct1K2, a_dct2, a_key, a_putK, a_pk0, a_pk1, a_pk2, a_rg2, a_rg2K, a_rg2K2, a_oL, a_raiseF, a_xr1, a_xr2, a_rgDn, a_xf, a_sortK, a_listK, a_lsK, a_tix, a_tixK, a_isX, a_isxK, a_binV, a_get2, a_g2K, a_ixk, a_ixkK, a_ixkE, call_r3, e1, c1, c2, b1, tup2, s7, e3, ix, tx_len]
            rfl
      · have b1 : decide ((l : Int) < 2) = false := decide_eq_false (by omega)
        obtain ⟨m, d2, e2, hd2, hm⟩ := take_nat d1 (l - 1) hd1 (by omega) (by omega)
        have c3 : ((l : Int) - 1) = ((l - 1 : Nat) : Int) := by omega
        have c4 : gAdd (.int 1) (.int (m : Int)) = some (.int ((1 + m : Nat) : Int)) := addn 1 m
        have c5 : ((l : Int) - ((1 + m : Nat) : Int)) = ((l - (1 + m) : Nat) : Int) := by omega
        obtain ⟨p, d3, e3, hd3, p1, p2, p3, p4⟩ := program_ev xs hx hx2 n (1 + m) d d2 hd2 (by omega) (by omega) h3 (by omega)
        obtain ⟨r, d4, e4, hd4, r1, r2, r3, r4⟩ := program_ev xs hx hx2 n (l - (1 + m)) d d3 hd3 (by omega) (by omega) h3 (by omega)
        have z := sz_two (by omega) (show 1 + m < l by omega) p1 r1
        by_cases K : k < 5
        · have k5 : decide ((k : Int) < 5) = true := decide_eq_true (by omega)
          refine ⟨.be p r, d4, ?_, hd4, z, by show max p.dp r.dp + 1 ≤ _; omega, by show max p.gs r.gs ≤ _; omega, p4, r4⟩
          rw [o__law_program]
          rcases cA with c1 | ⟨c1, c2⟩
          · simp -implicitDefEqProofs only [F__law_program, a_seq, a_expr, a_ret, a_retO, a_set, a_setO, a_if, a_unp, a_for, a_nil, a_retN, a_then_0, a_then_1, a_then_2, a_then_3, a_sK_0, a_sK_1, a_ifS_0, a_ifS_1, a_ifS_2, a_k_0, a_k_1, a_k_2, a_k_3, a_k_4, a_k_5, a_k_6, a_setV, a_setOd, a_setVK_0, a_setVK_1, a_setVK_2, a_setVK_3, a_setVK_4, a_setVK_5, a_c, a_var, a_varK_0, a_varK_1, a_bin, a_binK_0, a_binK_1, a_binK_2, a_binK_3, a_oE_0, a_oE_1, a_un, a_unK_0, a_unK_1, a_unK_2, a_unK_3, a_test, a_tru, a_not, a_asB_0, a_asB_1, a_asB_2, a_asB_3, a_lst_0, a_lst_1, a_and, a_or, a_andK_0, a_andK_1, a_andK_2, a_andK_3, a_andK_4, a_andK_5, a_dIf, a_tand, a_tor, a_tnot, a_ifK_0, a_ifK_1, a_ifK_2, a_ifK_3, a_ifK_4, a_cons, a_consK_0, a_consK_1, a_consK_2, a_consK_3, a_consK_4, a_refA, a_refK_0, a_refK_1, a_refK_2, a_cb, a_tup, a_dLst, a_vals0, a_vals1, a_vals2, a_vals3, a_vals4, call_eq, callO_eq, a_call1, a_call2, a_call3, a_call4, a_rf0, a_rf1, a_rf2, a_rfK_0, a_rfK_1, a_rfK_2, a_end0_0, a_end0_1, a_end0_2, a_end0_3, a_end1, a_put1_0, a_put1_1, a_look, a_lkK_0, a_lkK_1, a_lkK_2, a_ixV, a_ixK_0, a_ixK_1, a_ixK_2, a_lenV, a_truV, a_len_0, a_len_1, a_len_2, a_len_3, a_len_4, a_it, a_rg1, a_rgL, a_en, a_zp, a_itK_0, a_itK_1, a_itK_2, a_itE_0, a_itE_1, a_comp, a_compK_0, a_compK_1, a_isi, a_isO, a_gI_0, a_gI_1, a_gI_2, List.getElem?_cons_zero, List.getElem?_cons_succ, List.set_cons_zero, List.set_cons_succ, Option.bind_some, Option.map_some, f_nil, f_cons, f_some, f_nx, f_ct, f_bk, f_rt, f_ex, a_putV, a_pv0, a_pv1, a_put, a_sp0, a_sp1, a_sp2, a_sp3, a_sp4, a_app, a_sa1, a_sa2, a_aug, a_au1, a_au2, a_au3, gEq_int, gNe_int, ct_rf, ct_own, if_true, if_false, Bool.false_eq_true, a_try, a_tryK_0, a_tryK_1, a_tryK_2, a_tryH_0, a_tryH_1, a_tryK2_0, a_tryK2_1, a_hdS_0, a_hdS_1, a_compX, a_compKX_0, a_fld, a_meth, a_prop, a_propK, a_propE, a_make, a_makeK, a_makeE, a_putF, a_pfK, a_lkv, a_lkvK, a_dct1, a_dct1K, a_dct1K2, a_dct2, a_key, a_putK, a_pk0, a_pk1, a_pk2, a_rg2, a_rg2K, a_rg2K2, a_oL, a_raiseF, a_xr1, a_xr2, a_rgDn, a_xf, a_sortK, a_listK, a_lsK, a_tix, a_tixK, a_isX, a_isxK, a_binV, a_get2, a_g2K, a_ixk, a_ixkK, a_ixkE, call_r3, e1, c1, b1, c3, e2, c4, c5, k5, e3, e4, tup3]
            rfl
          · simp -implicitDefEqProofs only [F__law_program, a_seq, a_expr, a_ret, a_retO, a_set, a_setO, a_if, a_unp, a_for, a_nil, a_retN, a_then_0, a_then_1, a_then_2, a_then_3, a_sK_0, a_sK_1, a_ifS_0, a_ifS_1, a_ifS_2, a_k_0, a_k_1, a_k_2, a_k_3, a_k_4, a_k_5, a_k_6, a_setV, a_setOd, a_setVK_0, a_setVK_1, a_setVK_2, a_setVK_3, a_setVK_4, a_setVK_5, a_c, a_var, a_varK_0, a_varK_1, a_bin, a_binK_0, a_binK_1, a_binK_2, a_binK_3, a_oE_0, a_oE_1, a_un, a_unK_0, a_unK_1, a_unK_2, a_unK_3, a_test, a_tru, a_not, a_asB_0, a_asB_1, a_asB_2, a_asB_3, a_lst_0, a_lst_1, a_and, a_or, a_andK_0, a_andK_1, a_andK_2, a_andK_3, a_andK_4, a_andK_5, a_dIf, a_tand, a_tor, a_tnot, a_ifK_0, a_ifK_1, a_ifK_2, a_ifK_3, a_ifK_4, a_cons, a_consK_0, a_consK_1, a_consK_2, a_consK_3, a_consK_4, a_refA, a_refK_0, a_refK_1, a_refK_2, a_cb, a_tup, a_dLst, a_vals0, a_vals1, a_vals2, a_vals3, a_vals4, call_eq, callO_eq, a_call1, a_call2, a_call3, a_call4, a_rf0, a_rf1, a_rf2, a_rfK_0, a_rfK_1, a_rfK_2, a_end0_0, a_end0_1, a_end0_2, a_end0_3, a_end1, a_put1_0, a_put1_1, a_look, a_lkK_0, a_lkK_1, a_lkK_2, a_ixV, a_ixK_0, a_ixK_1, a_ixK_2, a_lenV, a_truV, a_len_0, a_len_1, a_len_2, a_len_3, a_len_4, a_it, a_rg1, a_rgL, a_en, a_zp, a_itK_0, a_itK_1, a_itK_2, a_itE_0, a_itE_1, a_comp, a_compK_0, a_compK_1, a_isi, a_isO, a_gI_0, a_gI_1, a_gI_2, List.getElem?_cons_zero, List.getElem?_cons_succ, List.set_cons_zero, List.set_cons_succ, Option.bind_some, Option.map_some, f_nil, f_cons, f_some, f_nx, f_ct, f_bk, f_rt, f_ex, a_putV, a_pv0, a_pv1, a_put, a_sp0, a_sp1, a_sp2, a_sp3, a_sp4, a_app, a_sa1, a_sa2, a_aug, a_au1, a_au2, a_au3, gEq_int, gNe_int, ct_rf, ct_own, if_true, if_false, Bool.false_eq_true, a_try, a_tryK_0, a_tryK_1, a_tryK_2, a_tryH_0, a_tryH_1, a_tryK2_0, a_tryK2_1, a_hdS_0, a_hdS_1, a_compX, a_compKX_0, a_fld, a_meth, a_prop, a_propK, a_propE, a_make, a_makeK, a_makeE, a_putF, a_pfK, a_lkv, a_lkvK, a_dct1, a_dct1K, a_dct1K2, a_dct2, a_key, a_putK, a_pk0, a_pk1, a_pk2, a_rg2, a_rg2K, a_rg2K2, a_oL, a_raiseF, a_xr1, a_xr2, a_rgDn, a_xf, a_sortK, a_listK, a_lsK, a_tix, a_tixK, a_isX, a_isxK, a_binV, a_get2, a_g2K, a_ixk, a_ixkK, a_ixkE, call_r3, e1, c1, c2, b1, c3, e2, c4, c5, k5, e3, e4, tup3]
            rfl
        · have k5 : decide ((k : Int) < 5) = false := decide_eq_false (by omega)
          refine ⟨.ei p r, d4, ?_, hd4, z, by show max p.dp r.dp + 1 ≤ _; omega, by show max p.gs r.gs ≤ _; omega, p4, r4⟩
          rw [o__law_program]
          rcases cA with c1 | ⟨c1, c2⟩
          · simp -implicitDefEqProofs only [F__law_program, a_seq, a_expr, a_ret, a_retO, a_set, a_setO, a_if, a_unp, a_for, a_nil, a_retN, a_then_0, a_then_1, a_then_2, a_then_3, a_sK_0, a_sK_1, a_ifS_0, a_ifS_1, a_ifS_2, a_k_0, a_k_1, a_k_2, a_k_3, a_k_4, a_k_5, a_k_6, a_setV, a_setOd, a_setVK_0, a_setVK_1, a_setVK_2, a_setVK_3, a_setVK_4, a_setVK_5, a_c, a_var, a_varK_0, a_varK_1, a_bin, a_binK_0, a_binK_1, a_binK_2, a_binK_3, a_oE_0, a_oE_1, a_un, a_unK_0, a_unK_1, a_unK_2, a_unK_3, a_test, a_tru, a_not, a_asB_0, a_asB_1, a_asB_2, a_asB_3, a_lst_0, a_lst_1, a_and, a_or, a_andK_0, a_andK_1, a_andK_2, a_andK_3, a_andK_4, a_andK_5, a_dIf, a_tand, a_tor, a_tnot, a_ifK_0, a_ifK_1, a_ifK_2, a_ifK_3, a_ifK_4, a_cons, a_consK_0, a_consK_1, a_consK_2, a_consK_3, a_consK_4, a_refA, a_refK_0, a_refK_1, a_refK_2, a_cb, a_tup, a_dLst, a_vals0, a_vals1, a_vals2, a_vals3, a_vals4, call_eq, callO_eq, a_call1, a_call2, a_call3, a_call4, a_rf0, a_rf1, a_rf2, a_rfK_0, a_rfK_1, a_rfK_2, a_end0_0, a_end0_1, a_end0_2, a_end0_3, a_end1, a_put1_0, a_put1_1, a_look, a_lkK_0, a_lkK_1, a_lkK_2, a_ixV, a_ixK_0, a_ixK_1, a_ixK_2, a_lenV, a_truV, a_len_0, a_len_1, a_len_2, a_len_3, a_len_4, a_it, a_rg1, a_rgL, a_en, a_zp, a_itK_0, a_itK_1, a_itK_2, a_itE_0, a_itE_1, a_comp, a_compK_0, a_compK_1, a_isi, a_isO, a_gI_0, a_gI_1, a_gI_2, List.getElem?_cons_zero, List.getElem?_cons_succ, List.set_cons_zero, List.set_cons_succ, Option.bind_some, Option.map_some, f_nil, f_cons, f_some, f_nx, f_ct, f_bk, f_rt, f_ex, a_putV, a_pv0, a_pv1, a_put, a_sp0, a_sp1, a_sp2, a_sp3, a_sp4, a_app, a_sa1, a_sa2, a_aug, a_au1, a_au2, a_au3, gEq_int, gNe_int, ct_rf, ct_own, if_true, if_false, Bool.false_eq_true, a_try, a_tryK_0, a_tryK_1, a_tryK_2, a_tryH_0, a_tryH_1, a_tryK2_0, a_tryK2_1, a_hdS_0, a_hdS_1, a_compX, a_compKX_0, a_fld, a_meth, a_prop, a_propK, a_propE, a_make, a_makeK, a_makeE, a_putF, a_pfK, a_lkv, a_lkvK, a_dct1, a_dct1K, a_dct1K2, a_dct2, a_key, a_putK, a_pk0, a_pk1, a_pk2, a_rg2, a_rg2K, a_rg2K2, a_oL, a_raiseF, a_xr1, a_xr2, a_rgDn, a_xf, a_sortK, a_listK, a_lsK, a_tix, a_tixK, a_isX, a_isxK, a_binV, a_get2, a_g2K, a_ixk, a_ixkK, a_ixkE, call_r3, e1, c1, b1, c3, e2, c4, c5, k5, e3, e4, tup3]
            rfl
          · simp -implicitDefEqProofs only [F__law_program, a_seq, a_expr, a_ret, a_retO, a_set, a_setO, a_if, a_unp, a_for, a_nil, a_retN, a_then_0, a_then_1, a_then_2, a_then_3, a_sK_0, a_sK_1, a_ifS_0, a_ifS_1, a_ifS_2, a_k_0, a_k_1, a_k_2, a_k_3, a_k_4, a_k_5, a_k_6, a_setV, a_setOd, a_setVK_0, a_setVK_1, a_setVK_2, a_setVK_3, a_setVK_4, a_setVK_5, a_c, a_var, a_varK_0, a_varK_1, a_bin, a_binK_0, a_binK_1, a_binK_2, a_binK_3, a_oE_0, a_oE_1, a_un, a_unK_0, a_unK_1, a_unK_2, a_unK_3, a_test, a_tru, a_not, a_asB_0, a_asB_1, a_asB_2, a_asB_3, a_lst_0, a_lst_1, a_and, a_or, a_andK_0, a_andK_1, a_andK_2, a_andK_3, a_andK_4, a_andK_5, a_dIf, a_tand, a_tor, a_tnot, a_ifK_0, a_ifK_1, a_ifK_2, a_ifK_3, a_ifK_4, a_cons, a_consK_0, a_consK_1, a_consK_2, a_consK_3, a_consK_4, a_refA, a_refK_0, a_refK_1, a_refK_2, a_cb, a_tup, a_dLst, a_vals0, a_vals1, a_vals2, a_vals3, a_vals4, call_eq, callO_eq, a_call1, a_call2, a_call3, a_call4, a_rf0, a_rf1, a_rf2, a_rfK_0, a_rfK_1, a_rfK_2, a_end0_0, a_end0_1, a_end0_2, a_end0_3, a_end1, a_put1_0, a_put1_1, a_look, a_lkK_0, a_lkK_1, a_lkK_2, a_ixV, a_ixK_0, a_ixK_1, a_ixK_2, a_lenV, a_truV, a_len_0, a_len_1, a_len_2, a_len_3, a_len_4, a_it, a_rg1, a_rgL, a_en, a_zp, a_itK_0, a_itK_1, a_itK_2, a_itE_0, a_itE_1, a_comp, a_compK_0, a_compK_1, a_isi, a_isO, a_gI_0, a_gI_1, a_gI_2, List.getElem?_cons_zero, List.getElem?_cons_succ, List.set_cons_zero, List.set_cons_succ, Option.bind_some, Option.map_some, f_nil, f_cons, f_some, f_nx, f_ct, f_bk, f_rt, f_ex, a_putV, a_pv0, a_pv1, a_put, a_sp0, a_sp1, a_sp2, a_sp3, a_sp4, a_app, a_sa1, a_sa2, a_aug, a_au1, a_au2, a_au3, gEq_int, gNe_int, ct_rf, ct_own, if_true, if_false, Bool.false_eq_true, a_try, a_tryK_0, a_tryK_1, a_tryK_2, a_tryH_0, a_tryH_1, a_tryK2_0, a_tryK2_1, a_hdS_0, a_hdS_1, a_compX, a_compKX_0, a_fld, a_meth, a_prop, a_propK, a_propE, a_make, a_makeK, a_makeE, a_putF, a_pfK, a_lkv, a_lkvK, a_dct1, a_dct1K, a_dct1K2, a_dct2, a_key, a_putK, a_pk0, a_pk1, a_pk2, a_rg2, a_rg2K, a_rg2K2, a_oL, a_raiseF, a_xr1, a_xr2, a_rgDn, a_xf, a_sortK, a_listK, a_lsK, a_tix, a_tixK, a_isX, a_isxK, a_binV, a_get2, a_g2K, a_ixk, a_ixkK, a_ixkE, call_r3, e1, c1, c2, b1, c3, e2, c4, c5, k5, e3, e4, tup3]
            rfl
end LW

set_option maxRecDepth 100000
set_option maxHeartbeats 4000000
namespace LW
open PySem PySem.Spec PyProof.Rows L2 DL
/-! ### words and None told exactly; draws that lie in a set; a call of five -/
theorem isi_strX (Ts : List String) (x : Str) : Option.map (fun t => D.bl (Ts.any (subT t))) (tyD (.str x)) = some (.bl (Ts.any (subT "str"))) := rfl
theorem sx1 : (["tuple"].any (subT "str")) = false := by decide
theorem sx2 : (["bool"].any (subT "str")) = false := by decide
theorem sx3 : (["str"].any (subT "str")) = true := by decide
theorem exact_str (n : Nat) (x : Str) (h : gEq false (.str x) (.str x) = some (.bl true)) : fn__law_exact (n + 1) [.str x, .str x] = .ret (.bl true) [] := by
  have sn : gIs false (.str x) .non = some (.bl false) := rfl
  rw [o__law_exact]
  simp -implicitDefEqProofs only [F__law_exact, a_seq, a_expr, a_ret, a_retO, a_set, a_setO, a_if, a_unp, a_for, a_nil, a_retN, a_then_0, a_then_1, a_then_2, a_then_3, a_sK_0, a_sK_1, a_ifS_0, a_ifS_1, a_ifS_2, a_k_0, a_k_1, a_k_2, a_k_3, a_k_4, a_k_5, a_k_6, a_setV, a_setOd, a_setVK_0, a_setVK_1, a_setVK_2, a_setVK_3, a_setVK_4, a_setVK_5, a_c, a_var, a_varK_0, a_varK_1, a_bin, a_binK_0, a_binK_1, a_binK_2, a_binK_3, a_oE_0, a_oE_1, a_un, a_unK_0, a_unK_1, a_unK_2, a_unK_3, a_test, a_tru, a_not, a_asB_0, a_asB_1, a_asB_2, a_asB_3, a_lst_0, a_lst_1, a_and, a_or, a_andK_0, a_andK_1, a_andK_2, a_andK_3, a_andK_4, a_andK_5, a_dIf, a_tand, a_tor, a_tnot, a_ifK_0, a_ifK_1, a_ifK_2, a_ifK_3, a_ifK_4, a_cons, a_consK_0, a_consK_1, a_consK_2, a_consK_3, a_consK_4, a_refA, a_refK_0, a_refK_1, a_refK_2, a_cb, a_tup, a_dLst, a_vals0, a_vals1, a_vals2, a_vals3, a_vals4, call_eq, callO_eq, a_call1, a_call2, a_call3, a_call4, a_rf0, a_rf1, a_rf2, a_rfK_0, a_rfK_1, a_rfK_2, a_end0_0, a_end0_1, a_end0_2, a_end0_3, a_end1, a_put1_0, a_put1_1, a_look, a_lkK_0, a_lkK_1, a_lkK_2, a_ixV, a_ixK_0, a_ixK_1, a_ixK_2, a_lenV, a_truV, a_len_0, a_len_1, a_len_2, a_len_3, a_len_4, a_it, a_rg1, a_rgL, a_en, a_zp, a_itK_0, a_itK_1, a_itK_2, a_itE_0, a_itE_1, a_comp, a_compK_0, a_compK_1, a_isi, a_isO, a_gI_0, a_gI_1, a_gI_2, List.getElem?_cons_zero, List.getElem?_cons_succ, List.set_cons_zero, List.set_cons_succ, Option.bind_some, Option.map_some, f_nil, f_cons, f_some, f_nx, f_ct, f_bk, f_rt, f_ex, a_putV, a_pv0, a_pv1, a_put, a_sp0, a_sp1, a_sp2, a_sp3, a_sp4, a_app, a_sa1, a_sa2, a_aug, a_au1, a_au2, a_au3, gEq_int, gNe_int, ct_rf, ct_own, if_true, if_false, Bool.false_eq_true, a_try, a_tryK_0, a_tryK_1, a_tryK_2, a_tryH_0, a_tryH_1, a_tryK2_0, a_tryK2_1, a_hdS_0, a_hdS_1, a_compX, a_compKX_0, a_fld, a_meth, a_prop, a_propK, a_propE, a_make, a_makeK, a_makeE, a_putF, a_pfK, a_lkv, a_lkvK, a_dct1, a_dct1K, a_dct1K2, a_dct2, a_key, a_putK, a_pk0, a_pk1, a_pk2, a_rg2, a_rg2K, a_rg2K2, a_oL, a_raiseF, a_xr1, a_xr2, a_rgDn, a_xf, a_sortK, a_listK, a_lsK, a_tix, a_tixK, a_isX, a_isxK, a_binV, a_get2, a_g2K, a_ixk, a_ixkK, a_ixkE, a_sl, a_slK0, a_slK1, a_slH, a_slL, a_slE, a_slLst, a_slTup, a_cw, a_tupV, a_tpK, a_cwb, a_ch, a_chK, a_ch1, a_ch2, a_ch2', a_ch3, isi_strX, sx1, sx2, sx3, sn, h]
  rfl
theorem xs_ok (x : Str) (h : PyData.strOk x = true) : gEq false (.str x) (.str x) = some (.bl true) := by
  rw [eq_str false x x h h, if_neg Bool.false_ne_true, decide_eq_true rfl]
theorem xs_ne (x : Str) (h : PyData.strOk x = true) : gEq true (.str x) (.str x) = some (.bl false) := by
  rw [eq_str true x x h h, if_pos rfl, decide_eq_true rfl]; rfl
end LW

set_option maxRecDepth 100000
set_option maxHeartbeats 4000000
namespace LW
open PySem PySem.Spec PyProof.Rows L2 DL
/-! ### values that are compared as data -/
theorem geq_nil0 (neg : Bool) : gEq neg (.lst []) (.lst []) = some (.bl (!neg)) := by cases neg <;> rfl
/-! ### walks that may return -/
/-! ### items with their places -/
end LW

set_option maxRecDepth 100000
set_option maxHeartbeats 8000000
namespace LW
open PySem PySem.Spec PyProof.Rows L2 DL
/-! ### law k37: rewritings -/
inductive Sh where
  | le (i : Nat) | no | be (a b : Sh) | ei (a b : Sh) | ag (a : Sh)
def ltr (i : Nat) : Str := if i = 0 then "r" else if i = 1 then "s" else "t"
def shD : Sh → D
  | .le i => .str (ltr i)
  | .no => .tup [.str "nothing"]
  | .be a b => .tup [.str "behind", shD a, shD b]
  | .ei a b => .tup [.str "either", shD a, shD b]
  | .ag a => .tup [.str "again", shD a]
def Sh.dp : Sh → Nat
  | .le _ => 1
  | .no => 1
  | .be a b => max a.dp b.dp + 1
  | .ei a b => max a.dp b.dp + 1
  | .ag a => a.dp + 1
def Sh.ok (n : Nat) : Sh → Bool
  | .le i => decide (i < n)
  | .no => true
  | .be a b => a.ok n && b.ok n
  | .ei a b => a.ok n && b.ok n
  | .ag a => a.ok n
def fil (ps : List Pg) : Sh → Pg
  | .le i => ps.getD i .no
  | .no => .no
  | .be a b => .be (fil ps a) (fil ps b)
  | .ei a b => .ei (fil ps a) (fil ps b)
  | .ag a => .ag (fil ps a)
structure En where
  nm : Str
  many : Nat
  vd : Str
  lt : Sh
  rt : Sh
def ents : List En := [⟨"bracket_behind", 3, "alike", (.be (.be (.le 0) (.le 1)) (.le 2)), (.be (.le 0) (.be (.le 1) (.le 2)))⟩, ⟨"drop_first", 1, "alike", (.be .no (.le 0)), (.le 0)⟩, ⟨"drop_last", 1, "alike", (.be (.le 0) .no), (.le 0)⟩, ⟨"drop_double", 1, "alike", (.ei (.le 0) (.le 0)), (.le 0)⟩, ⟨"turn_either", 2, "alike", (.ei (.le 0) (.le 1)), (.ei (.le 1) (.le 0))⟩, ⟨"bracket_either", 3, "alike", (.ei (.ei (.le 0) (.le 1)) (.le 2)), (.ei (.le 0) (.ei (.le 1) (.le 2)))⟩, ⟨"spread_first", 3, "alike", (.be (.le 0) (.ei (.le 1) (.le 2))), (.ei (.be (.le 0) (.le 1)) (.be (.le 0) (.le 2)))⟩, ⟨"again_once", 1, "alike", (.ag (.ag (.le 0))), (.ag (.le 0))⟩, ⟨"again_twice", 1, "alike", (.be (.ag (.le 0)) (.ag (.le 0))), (.ag (.le 0))⟩, ⟨"again_mixed", 2, "alike", (.ag (.ei (.le 0) (.le 1))), (.ag (.be (.ag (.le 0)) (.ag (.le 1))))⟩, ⟨"again_ended", 1, "alike", (.ag (.le 0)), (.ei .no (.be (.ag (.le 0)) (.le 0)))⟩, ⟨"again_turns", 2, "alike", (.ag (.ei (.le 0) (.le 1))), (.be (.ag (.be (.ag (.le 0)) (.le 1))) (.ag (.le 0)))⟩, ⟨"spread_last", 3, "sharper", (.be (.ei (.le 0) (.le 1)) (.le 2)), (.ei (.be (.le 0) (.le 2)) (.be (.le 1) (.le 2)))⟩, ⟨"unroll", 1, "sharper", (.ag (.le 0)), (.ei .no (.be (.le 0) (.ag (.le 0))))⟩, ⟨"slide_one", 1, "sharper", (.be (.ag (.le 0)) (.le 0)), (.be (.le 0) (.ag (.le 0)))⟩, ⟨"slide_two", 2, "sharper", (.be (.ag (.be (.le 0) (.le 1))) (.le 0)), (.be (.le 0) (.ag (.be (.le 1) (.le 0))))⟩, ⟨"part_again", 2, "sharper", (.ag (.ei (.le 0) (.le 1))), (.be (.ag (.le 0)) (.ag (.be (.le 1) (.ag (.le 0)))))⟩, ⟨"halve_again", 1, "sharper", (.ag (.le 0)), (.be (.ei .no (.le 0)) (.ag (.be (.le 0) (.le 0))))⟩]
def enT (e : En) : D := .tup [.str e.nm, .int (e.many : Int), .str e.vd, shD e.lt, shD e.rt]
def rwT (e : En) : D := .tup [.int (e.many : Int), shD e.lt, shD e.rt, .str e.vd]
def isTr (o : FO) : Bool := match o with
  | .ret (.bl true) [] => true
  | _ => false
theorem of_isTr {o : FO} (h : isTr o = true) : o = .ret (.bl true) [] := by
  unfold isTr at h
  split at h
  · rfl
  · cases h
theorem table_ev : fn__law_table [] = .ret (.lst (ents.map enT)) [] := by kernel_rfl
theorem names_exact : fn__law_exact 14 [tupM kvd_REWRITINGS, .tup (ents.map fun e => .str e.nm)] = .ret (.bl true) [] := of_isTr (by decide +kernel)
theorem get_all : ents.map (fun e => tabD kvd_REWRITINGS e.nm) = ents.map (fun e => some (rwT e)) := rfl
theorem get_ev {e : En} (h : e ∈ ents) : tabD kvd_REWRITINGS e.nm = some (rwT e) := by
  have key : ∀ ls : List En, ls.map (fun e => tabD kvd_REWRITINGS e.nm) = ls.map (fun e => some (rwT e)) → ∀ e ∈ ls, tabD kvd_REWRITINGS e.nm = some (rwT e) := fun ls => by
    induction ls with
    | nil => intro _ e he; cases he
    | cons a t ih =>
      intro q e he
      rw [List.map_cons, List.map_cons] at q
      injection q with q1 q2
      rcases List.mem_cons.mp he with rfl | he
      · exact q1
      · exact ih q2 e he
  exact key ents get_all e h
def okE (e : En) : Bool := (decide (1 ≤ e.many) && decide (e.many ≤ 3)) && ((e.lt.ok e.many && e.rt.ok e.many) && (decide (e.lt.dp ≤ 5) && decide (e.rt.dp ≤ 5))) && ((PyData.strOk e.nm && PyData.strOk e.vd) && ((tabD kvd_REWRITINGS (e.nm ++ "x")).isNone && ((tabD kvd_REWRITINGS ("X" ++ e.nm)).isNone && (tabD kvd_REWRITINGS (e.nm ++ " ")).isNone)))
theorem ok_all : ents.all okE = true := by decide +kernel
structure OkE (e : En) : Prop where
  m1 : 1 ≤ e.many
  m3 : e.many ≤ 3
  l : e.lt.ok e.many = true
  r : e.rt.ok e.many = true
  ld : e.lt.dp ≤ 5
  rd : e.rt.dp ≤ 5
  n : PyData.strOk e.nm = true
  v : PyData.strOk e.vd = true
  x1 : tabD kvd_REWRITINGS (e.nm ++ "x") = none
  x2 : tabD kvd_REWRITINGS ("X" ++ e.nm) = none
  x3 : tabD kvd_REWRITINGS (e.nm ++ " ") = none
theorem ok_ev {e : En} (h : e ∈ ents) : OkE e := by
  have := List.all_eq_true.mp ok_all e h
  unfold okE at this
  simp only [Bool.and_eq_true, decide_eq_true_eq, Option.isNone_iff_eq_none] at this
  obtain ⟨⟨⟨a, b⟩, ⟨c, d⟩, f, g⟩, ⟨h1, h2⟩, h3, h4, h5⟩ := this
  exact ⟨a, b, c, d, f, g, h1, h2, h3, h4, h5⟩
/-! ### the program's -/
theorem isS (x : Str) : Option.map (fun t => D.bl ((["str"] : List String).any (subT t))) (tyD (.str x)) = some (.bl true) := rfl
theorem isTupS (xs : List D) : Option.map (fun t => D.bl ((["str"] : List String).any (subT t))) (tyD (.tup xs)) = some (.bl false) := rfl
theorem isrw_str (x : Str) : fn__is_rewriting [.str x] = .ret (.bl (tabD kvd_REWRITINGS x).isSome) [] := by
  have i : inM false kvd_REWRITINGS (.str x) = some (.bl (tabD kvd_REWRITINGS x).isSome) := rfl
  have tb : dTruth (.bl true) = some true := rfl
  rw [o__is_rewriting]
  simp -implicitDefEqProofs only [F__is_rewriting, a_seq, a_expr, a_ret, a_retO, a_set, a_setO, a_if, a_unp, a_for, a_nil, a_retN, a_then_0, a_then_1, a_then_2, a_then_3, a_sK_0, a_sK_1, a_ifS_0, a_ifS_1, a_ifS_2, a_k_0, a_k_1, a_k_2, a_k_3, a_k_4, a_k_5, a_k_6, a_setV, a_setOd, a_setVK_0, a_setVK_1, a_setVK_2, a_setVK_3, a_setVK_4, a_setVK_5, a_c, a_var, a_varK_0, a_varK_1, a_bin, a_binK_0, a_binK_1, a_binK_2, a_binK_3, a_oE_0, a_oE_1, a_un, a_unK_0, a_unK_1, a_unK_2, a_unK_3, a_test, a_tru, a_not, a_asB_0, a_asB_1, a_asB_2, a_asB_3, a_lst_0, a_lst_1, a_and, a_or, a_andK_0, a_andK_1, a_andK_2, a_andK_3, a_andK_4, a_andK_5, a_dIf, a_tand, a_tor, a_tnot, a_ifK_0, a_ifK_1, a_ifK_2, a_ifK_3, a_ifK_4, a_cons, a_consK_0, a_consK_1, a_consK_2, a_consK_3, a_consK_4, a_refA, a_refK_0, a_refK_1, a_refK_2, a_cb, a_tup, a_dLst, a_vals0, a_vals1, a_vals2, a_vals3, a_vals4, call_eq, callO_eq, a_call1, a_call2, a_call3, a_call4, a_rf0, a_rf1, a_rf2, a_rfK_0, a_rfK_1, a_rfK_2, a_end0_0, a_end0_1, a_end0_2, a_end0_3, a_end1, a_put1_0, a_put1_1, a_look, a_lkK_0, a_lkK_1, a_lkK_2, a_ixV, a_ixK_0, a_ixK_1, a_ixK_2, a_lenV, a_truV, a_len_0, a_len_1, a_len_2, a_len_3, a_len_4, a_it, a_rg1, a_rgL, a_en, a_zp, a_itK_0, a_itK_1, a_itK_2, a_itE_0, a_itE_1, a_comp, a_compK_0, a_compK_1, a_isi, a_isO, a_gI_0, a_gI_1, a_gI_2, List.getElem?_cons_zero, List.getElem?_cons_succ, List.set_cons_zero, List.set_cons_succ, Option.bind_some, Option.map_some, f_nil, f_cons, f_some, f_nx, f_ct, f_bk, f_rt, f_ex, a_putV, a_pv0, a_pv1, a_put, a_sp0, a_sp1, a_sp2, a_sp3, a_sp4, a_app, a_sa1, a_sa2, a_aug, a_au1, a_au2, a_au3, gEq_int, gNe_int, ct_rf, ct_own, if_true, if_false, Bool.false_eq_true, a_try, a_tryK_0, a_tryK_1, a_tryK_2, a_tryH_0, a_tryH_1, a_tryK2_0, a_tryK2_1, a_hdS_0, a_hdS_1, a_compX, a_compKX_0, a_fld, a_meth, a_prop, a_propK, a_propE, a_make, a_makeK, a_makeE, a_putF, a_pfK, a_lkv, a_lkvK, a_dct1, a_dct1K, a_dct1K2, a_dct2, a_key, a_putK, a_pk0, a_pk1, a_pk2, a_rg2, a_rg2K, a_rg2K2, a_oL, a_raiseF, a_xr1, a_xr2, a_rgDn, a_xf, a_sortK, a_listK, a_lsK, a_tix, a_tixK, a_isX, a_isxK, a_binV, a_get2, a_g2K, a_ixk, a_ixkK, a_ixkE, a_sl, a_slK0, a_slK1, a_slH, a_slL, a_slE, a_slLst, a_slTup, a_cw, a_tupV, a_tpK, a_cwb, a_ch, a_chK, a_ch1, a_ch2, a_ch2', a_ch3, isS, tb, i]
  rfl
theorem rwof_ev {e : En} (h : e ∈ ents) : fn__rewriting_of [.str e.nm] = .ret (rwT e) [] := by
  have i := isrw_str e.nm
  have g := get_ev h
  rw [g] at i
  have ix : ixM kvd_REWRITINGS (.str e.nm) = some (rwT e) := g
  have i : fn__is_rewriting [.str e.nm] = .ret (.bl true) [] := i
  rw [o__rewriting_of]
  simp -implicitDefEqProofs only [F__rewriting_of, a_seq, a_expr, a_ret, a_retO, a_set, a_setO, a_if, a_unp, a_for, a_nil, a_retN, a_then_0, a_then_1, a_then_2, a_then_3, a_sK_0, a_sK_1, a_ifS_0, a_ifS_1, a_ifS_2, a_k_0, a_k_1, a_k_2, a_k_3, a_k_4, a_k_5, a_k_6, a_setV, a_setOd, a_setVK_0, a_setVK_1, a_setVK_2, a_setVK_3, a_setVK_4, a_setVK_5, a_c, a_var, a_varK_0, a_varK_1, a_bin, a_binK_0, a_binK_1, a_binK_2, a_binK_3, a_oE_0, a_oE_1, a_un, a_unK_0, a_unK_1, a_unK_2, a_unK_3, a_test, a_tru, a_not, a_asB_0, a_asB_1, a_asB_2, a_asB_3, a_lst_0, a_lst_1, a_and, a_or, a_andK_0, a_andK_1, a_andK_2, a_andK_3, a_andK_4, a_andK_5, a_dIf, a_tand, a_tor, a_tnot, a_ifK_0, a_ifK_1, a_ifK_2, a_ifK_3, a_ifK_4, a_cons, a_consK_0, a_consK_1, a_consK_2, a_consK_3, a_consK_4, a_refA, a_refK_0, a_refK_1, a_refK_2, a_cb, a_tup, a_dLst, a_vals0, a_vals1, a_vals2, a_vals3, a_vals4, call_eq, callO_eq, a_call1, a_call2, a_call3, a_call4, a_rf0, a_rf1, a_rf2, a_rfK_0, a_rfK_1, a_rfK_2, a_end0_0, a_end0_1, a_end0_2, a_end0_3, a_end1, a_put1_0, a_put1_1, a_look, a_lkK_0, a_lkK_1, a_lkK_2, a_ixV, a_ixK_0, a_ixK_1, a_ixK_2, a_lenV, a_truV, a_len_0, a_len_1, a_len_2, a_len_3, a_len_4, a_it, a_rg1, a_rgL, a_en, a_zp, a_itK_0, a_itK_1, a_itK_2, a_itE_0, a_itE_1, a_comp, a_compK_0, a_compK_1, a_isi, a_isO, a_gI_0, a_gI_1, a_gI_2, List.getElem?_cons_zero, List.getElem?_cons_succ, List.set_cons_zero, List.set_cons_succ, Option.bind_some, Option.map_some, f_nil, f_cons, f_some, f_nx, f_ct, f_bk, f_rt, f_ex, a_putV, a_pv0, a_pv1, a_put, a_sp0, a_sp1, a_sp2, a_sp3, a_sp4, a_app, a_sa1, a_sa2, a_aug, a_au1, a_au2, a_au3, gEq_int, gNe_int, ct_rf, ct_own, if_true, if_false, Bool.false_eq_true, a_try, a_tryK_0, a_tryK_1, a_tryK_2, a_tryH_0, a_tryH_1, a_tryK2_0, a_tryK2_1, a_hdS_0, a_hdS_1, a_compX, a_compKX_0, a_fld, a_meth, a_prop, a_propK, a_propE, a_make, a_makeK, a_makeE, a_putF, a_pfK, a_lkv, a_lkvK, a_dct1, a_dct1K, a_dct1K2, a_dct2, a_key, a_putK, a_pk0, a_pk1, a_pk2, a_rg2, a_rg2K, a_rg2K2, a_oL, a_raiseF, a_xr1, a_xr2, a_rgDn, a_xf, a_sortK, a_listK, a_lsK, a_tix, a_tixK, a_isX, a_isxK, a_binV, a_get2, a_g2K, a_ixk, a_ixkK, a_ixkE, a_sl, a_slK0, a_slK1, a_slH, a_slL, a_slE, a_slLst, a_slTup, a_cw, a_tupV, a_tpK, a_cwb, a_ch, a_chK, a_ch1, a_ch2, a_ch2', a_ch3, i, Bool.not_true, ix]
  rfl
theorem verdict_ev {e : En} (h : e ∈ ents) : fn_verdict_of [.str e.nm] = .ret (.str e.vd) [] := by
  have r := rwof_ev h
  have ix : idxD (rwT e) (.int 3) = some (.str e.vd) := ix_any true (k := 3) rfl
  rw [o_verdict_of]
  simp -implicitDefEqProofs only [F_verdict_of, a_seq, a_expr, a_ret, a_retO, a_set, a_setO, a_if, a_unp, a_for, a_nil, a_retN, a_then_0, a_then_1, a_then_2, a_then_3, a_sK_0, a_sK_1, a_ifS_0, a_ifS_1, a_ifS_2, a_k_0, a_k_1, a_k_2, a_k_3, a_k_4, a_k_5, a_k_6, a_setV, a_setOd, a_setVK_0, a_setVK_1, a_setVK_2, a_setVK_3, a_setVK_4, a_setVK_5, a_c, a_var, a_varK_0, a_varK_1, a_bin, a_binK_0, a_binK_1, a_binK_2, a_binK_3, a_oE_0, a_oE_1, a_un, a_unK_0, a_unK_1, a_unK_2, a_unK_3, a_test, a_tru, a_not, a_asB_0, a_asB_1, a_asB_2, a_asB_3, a_lst_0, a_lst_1, a_and, a_or, a_andK_0, a_andK_1, a_andK_2, a_andK_3, a_andK_4, a_andK_5, a_dIf, a_tand, a_tor, a_tnot, a_ifK_0, a_ifK_1, a_ifK_2, a_ifK_3, a_ifK_4, a_cons, a_consK_0, a_consK_1, a_consK_2, a_consK_3, a_consK_4, a_refA, a_refK_0, a_refK_1, a_refK_2, a_cb, a_tup, a_dLst, a_vals0, a_vals1, a_vals2, a_vals3, a_vals4, call_eq, callO_eq, a_call1, a_call2, a_call3, a_call4, a_rf0, a_rf1, a_rf2, a_rfK_0, a_rfK_1, a_rfK_2, a_end0_0, a_end0_1, a_end0_2, a_end0_3, a_end1, a_put1_0, a_put1_1, a_look, a_lkK_0, a_lkK_1, a_lkK_2, a_ixV, a_ixK_0, a_ixK_1, a_ixK_2, a_lenV, a_truV, a_len_0, a_len_1, a_len_2, a_len_3, a_len_4, a_it, a_rg1, a_rgL, a_en, a_zp, a_itK_0, a_itK_1, a_itK_2, a_itE_0, a_itE_1, a_comp, a_compK_0, a_compK_1, a_isi, a_isO, a_gI_0, a_gI_1, a_gI_2, List.getElem?_cons_zero, List.getElem?_cons_succ, List.set_cons_zero, List.set_cons_succ, Option.bind_some, Option.map_some, f_nil, f_cons, f_some, f_nx, f_ct, f_bk, f_rt, f_ex, a_putV, a_pv0, a_pv1, a_put, a_sp0, a_sp1, a_sp2, a_sp3, a_sp4, a_app, a_sa1, a_sa2, a_aug, a_au1, a_au2, a_au3, gEq_int, gNe_int, ct_rf, ct_own, if_true, if_false, Bool.false_eq_true, a_try, a_tryK_0, a_tryK_1, a_tryK_2, a_tryH_0, a_tryH_1, a_tryK2_0, a_tryK2_1, a_hdS_0, a_hdS_1, a_compX, a_compKX_0, a_fld, a_meth, a_prop, a_propK, a_propE, a_make, a_makeK, a_makeE, a_putF, a_pfK, a_lkv, a_lkvK, a_dct1, a_dct1K, a_dct1K2, a_dct2, a_key, a_putK, a_pk0, a_pk1, a_pk2, a_rg2, a_rg2K, a_rg2K2, a_oL, a_raiseF, a_xr1, a_xr2, a_rgDn, a_xf, a_sortK, a_listK, a_lsK, a_tix, a_tixK, a_isX, a_isxK, a_binV, a_get2, a_g2K, a_ixk, a_ixkK, a_ixkE, a_sl, a_slK0, a_slK1, a_slH, a_slL, a_slE, a_slLst, a_slTup, a_cw, a_tupV, a_tpK, a_cwb, a_ch, a_chK, a_ch1, a_ch2, a_ch2', a_ch3, r, ix]
  rfl
theorem letters_ev {e : En} (h : e ∈ ents) : fn_letters_of [.str e.nm] = .ret (.int (e.many : Int)) [] := by
  have r := rwof_ev h
  have ix : idxD (rwT e) (.int 0) = some (.int (e.many : Int)) := ix_any true (k := 0) rfl
  rw [o_letters_of]
  simp -implicitDefEqProofs only [F_letters_of, a_seq, a_expr, a_ret, a_retO, a_set, a_setO, a_if, a_unp, a_for, a_nil, a_retN, a_then_0, a_then_1, a_then_2, a_then_3, a_sK_0, a_sK_1, a_ifS_0, a_ifS_1, a_ifS_2, a_k_0, a_k_1, a_k_2, a_k_3, a_k_4, a_k_5, a_k_6, a_setV, a_setOd, a_setVK_0, a_setVK_1, a_setVK_2, a_setVK_3, a_setVK_4, a_setVK_5, a_c, a_var, a_varK_0, a_varK_1, a_bin, a_binK_0, a_binK_1, a_binK_2, a_binK_3, a_oE_0, a_oE_1, a_un, a_unK_0, a_unK_1, a_unK_2, a_unK_3, a_test, a_tru, a_not, a_asB_0, a_asB_1, a_asB_2, a_asB_3, a_lst_0, a_lst_1, a_and, a_or, a_andK_0, a_andK_1, a_andK_2, a_andK_3, a_andK_4, a_andK_5, a_dIf, a_tand, a_tor, a_tnot, a_ifK_0, a_ifK_1, a_ifK_2, a_ifK_3, a_ifK_4, a_cons, a_consK_0, a_consK_1, a_consK_2, a_consK_3, a_consK_4, a_refA, a_refK_0, a_refK_1, a_refK_2, a_cb, a_tup, a_dLst, a_vals0, a_vals1, a_vals2, a_vals3, a_vals4, call_eq, callO_eq, a_call1, a_call2, a_call3, a_call4, a_rf0, a_rf1, a_rf2, a_rfK_0, a_rfK_1, a_rfK_2, a_end0_0, a_end0_1, a_end0_2, a_end0_3, a_end1, a_put1_0, a_put1_1, a_look, a_lkK_0, a_lkK_1, a_lkK_2, a_ixV, a_ixK_0, a_ixK_1, a_ixK_2, a_lenV, a_truV, a_len_0, a_len_1, a_len_2, a_len_3, a_len_4, a_it, a_rg1, a_rgL, a_en, a_zp, a_itK_0, a_itK_1, a_itK_2, a_itE_0, a_itE_1, a_comp, a_compK_0, a_compK_1, a_isi, a_isO, a_gI_0, a_gI_1, a_gI_2, List.getElem?_cons_zero, List.getElem?_cons_succ, List.set_cons_zero, List.set_cons_succ, Option.bind_some, Option.map_some, f_nil, f_cons, f_some, f_nx, f_ct, f_bk, f_rt, f_ex, a_putV, a_pv0, a_pv1, a_put, a_sp0, a_sp1, a_sp2, a_sp3, a_sp4, a_app, a_sa1, a_sa2, a_aug, a_au1, a_au2, a_au3, gEq_int, gNe_int, ct_rf, ct_own, if_true, if_false, Bool.false_eq_true, a_try, a_tryK_0, a_tryK_1, a_tryK_2, a_tryH_0, a_tryH_1, a_tryK2_0, a_tryK2_1, a_hdS_0, a_hdS_1, a_compX, a_compKX_0, a_fld, a_meth, a_prop, a_propK, a_propE, a_make, a_makeK, a_makeE, a_putF, a_pfK, a_lkv, a_lkvK, a_dct1, a_dct1K, a_dct1K2, a_dct2, a_key, a_putK, a_pk0, a_pk1, a_pk2, a_rg2, a_rg2K, a_rg2K2, a_oL, a_raiseF, a_xr1, a_xr2, a_rgDn, a_xf, a_sortK, a_listK, a_lsK, a_tix, a_tixK, a_isX, a_isxK, a_binV, a_get2, a_g2K, a_ixk, a_ixkK, a_ixkE, a_sl, a_slK0, a_slK1, a_slH, a_slL, a_slE, a_slLst, a_slTup, a_cw, a_tupV, a_tpK, a_cwb, a_ch, a_chK, a_ch1, a_ch2, a_ch2', a_ch3, r, ix]
  rfl
def pgs (ps : List Pg) : List D := ps.map pgD
theorem pgs_len (ps : List Pg) : (pgs ps).length = ps.length := List.length_map _
def ks3 : List Key := [.inr "r", .inr "s", .inr "t"]
def putD (ps : List Pg) : D := .dct (ks3.take ps.length) (pgs ps)
theorem put_get {ps : List Pg} (h3 : ps.length ≤ 3) {i : Nat} (h : i < ps.length) : ixO (.str (ltr i)) (some (putD ps)) = some (pgD (ps.getD i .no)) := by
  match ps, h3, h with
  | [a], _, h =>
    have : i = 0 := by simp at h; exact h
    subst this; rfl
  | [a, b], _, h =>
    have : i = 0 ∨ i = 1 := by simp at h; omega
    rcases this with rfl | rfl <;> rfl
  | [a, b, c], _, h =>
    have : i = 0 ∨ i = 1 ∨ i = 2 := by simp at h; omega
    rcases this with rfl | rfl | rfl <;> rfl
  | _ :: _ :: _ :: _ :: _, h3, _ => simp at h3
  | [], _, h => simp at h
theorem ixkRP (j : Nat) (fb : DE) (δ : DEnv) (ps : List Pg) : ixkK j fb δ (some (putD ps)) = ixkK.ixkE j (fb δ) := rfl
theorem cut1 (a b : D) : cutL [a, b] (some 1) none = [b] := rfl
theorem cut2' (a b c : D) : cutL [a, b, c] (some 1) none = [b, c] := rfl
theorem cut0 (a : D) : cutL [a] (some 1) none = [] := rfl
theorem gaT (a b : List D) (h : a.length + b.length ≤ 8192) : gAdd (.tup a) (.tup b) = some (.tup (a ++ b)) := if_pos (by rw [sizeLine_eq]; omega)
theorem gaL (a b : List D) (h : a.length + b.length ≤ 8192) : gAdd (.lst a) (.lst b) = some (.lst (a ++ b)) := if_pos (by rw [sizeLine_eq]; omega)
theorem fill_ev {ps : List Pg} (h3 : ps.length ≤ 3) : ∀ (n : Nat) (s : Sh), s.dp ≤ n → s.ok ps.length = true → fn__filled n [shD s, putD ps] = .ret (pgD (fil ps s)) [] := by
  intro n
  induction n with
  | zero => intro s h; cases s <;> simp [Sh.dp] at h
  | succ n ih =>
    intro s hd ho
    have c2 : ∀ (x y : D) (a b : Pg), fn__filled n [x, putD ps] = .ret (pgD a) [] → fn__filled n [y, putD ps] = .ret (pgD b) [] → ∀ z : D, compL (setV 2) dYes (E__filled_0 (fn__filled n)) [2] [x, y] [.val z, .val (putD ps), .un] [] = .ok (.lst [pgD a, pgD b]) [.val z, .val (putD ps), .un] := fun x y a b h1 h2 z => by
      have q := comp_anyS (A := setV 2) (t := dYes) (el := E__filled_0 (fn__filled n)) (vs := [2]) (δ := [.val z, .val (putD ps), .un]) (it := fun q : D × Pg => q.1) (Γ := fun q : D × Pg => [.val z, .val (putD ps), .val q.1]) (g := fun q : D × Pg => pgD q.2) (fun _ => true) rfl (fun _ => rfl) (fun _ => rfl) [(x, a), (y, b)] [] (by show 2 ≤ 4096; decide) fun q hq => ⟨rfl, fun _ => by
        have hq : fn__filled n [q.1, putD ps] = .ret (pgD q.2) [] := by
          rcases List.mem_cons.mp hq with rfl | hq
          · exact h1
          · rw [List.mem_singleton.mp hq]; exact h2
        simp -implicitDefEqProofs only [E__filled_0, a_seq, a_expr, a_ret, a_retO, a_set, a_setO, a_if, a_unp, a_for, a_nil, a_retN, a_then_0, a_then_1, a_then_2, a_then_3, a_sK_0, a_sK_1, a_ifS_0, a_ifS_1, a_ifS_2, a_k_0, a_k_1, a_k_2, a_k_3, a_k_4, a_k_5, a_k_6, a_setV, a_setOd, a_setVK_0, a_setVK_1, a_setVK_2, a_setVK_3, a_setVK_4, a_setVK_5, a_c, a_var, a_varK_0, a_varK_1, a_bin, a_binK_0, a_binK_1, a_binK_2, a_binK_3, a_oE_0, a_oE_1, a_un, a_unK_0, a_unK_1, a_unK_2, a_unK_3, a_test, a_tru, a_not, a_asB_0, a_asB_1, a_asB_2, a_asB_3, a_lst_0, a_lst_1, a_and, a_or, a_andK_0, a_andK_1, a_andK_2, a_andK_3, a_andK_4, a_andK_5, a_dIf, a_tand, a_tor, a_tnot, a_ifK_0, a_ifK_1, a_ifK_2, a_ifK_3, a_ifK_4, a_cons, a_consK_0, a_consK_1, a_consK_2, a_consK_3, a_consK_4, a_refA, a_refK_0, a_refK_1, a_refK_2, a_cb, a_tup, a_dLst, a_vals0, a_vals1, a_vals2, a_vals3, a_vals4, call_eq, callO_eq, a_call1, a_call2, a_call3, a_call4, a_rf0, a_rf1, a_rf2, a_rfK_0, a_rfK_1, a_rfK_2, a_end0_0, a_end0_1, a_end0_2, a_end0_3, a_end1, a_put1_0, a_put1_1, a_look, a_lkK_0, a_lkK_1, a_lkK_2, a_ixV, a_ixK_0, a_ixK_1, a_ixK_2, a_lenV, a_truV, a_len_0, a_len_1, a_len_2, a_len_3, a_len_4, a_it, a_rg1, a_rgL, a_en, a_zp, a_itK_0, a_itK_1, a_itK_2, a_itE_0, a_itE_1, a_comp, a_compK_0, a_compK_1, a_isi, a_isO, a_gI_0, a_gI_1, a_gI_2, List.getElem?_cons_zero, List.getElem?_cons_succ, List.set_cons_zero, List.set_cons_succ, Option.bind_some, Option.map_some, f_nil, f_cons, f_some, f_nx, f_ct, f_bk, f_rt, f_ex, a_putV, a_pv0, a_pv1, a_put, a_sp0, a_sp1, a_sp2, a_sp3, a_sp4, a_app, a_sa1, a_sa2, a_aug, a_au1, a_au2, a_au3, gEq_int, gNe_int, ct_rf, ct_own, if_true, if_false, Bool.false_eq_true, a_try, a_tryK_0, a_tryK_1, a_tryK_2, a_tryH_0, a_tryH_1, a_tryK2_0, a_tryK2_1, a_hdS_0, a_hdS_1, a_compX, a_compKX_0, a_fld, a_meth, a_prop, a_propK, a_propE, a_make, a_makeK, a_makeE, a_putF, a_pfK, a_lkv, a_lkvK, a_dct1, a_dct1K, a_dct1K2, a_dct2, a_key, a_putK, a_pk0, a_pk1, a_pk2, a_rg2, a_rg2K, a_rg2K2, a_oL, a_raiseF, a_xr1, a_xr2, a_rgDn, a_xf, a_sortK, a_listK, a_lsK, a_tix, a_tixK, a_isX, a_isxK, a_binV, a_get2, a_g2K, a_ixk, a_ixkK, a_ixkE, a_sl, a_slK0, a_slK1, a_slH, a_slL, a_slE, a_slLst, a_slTup, a_cw, a_tupV, a_tpK, a_cwb, a_ch, a_chK, a_ch1, a_ch2, a_ch2', a_ch3, hq]⟩
      exact q
    have c1 : ∀ (x : D) (a : Pg), fn__filled n [x, putD ps] = .ret (pgD a) [] → ∀ z : D, compL (setV 2) dYes (E__filled_0 (fn__filled n)) [2] [x] [.val z, .val (putD ps), .un] [] = .ok (.lst [pgD a]) [.val z, .val (putD ps), .un] := fun x a h1 z => by
      have q := comp_anyS (A := setV 2) (t := dYes) (el := E__filled_0 (fn__filled n)) (vs := [2]) (δ := [.val z, .val (putD ps), .un]) (it := fun q : D × Pg => q.1) (Γ := fun q : D × Pg => [.val z, .val (putD ps), .val q.1]) (g := fun q : D × Pg => pgD q.2) (fun _ => true) rfl (fun _ => rfl) (fun _ => rfl) [(x, a)] [] (by show 1 ≤ 4096; decide) fun q hq => ⟨rfl, fun _ => by
        have hq : fn__filled n [q.1, putD ps] = .ret (pgD q.2) [] := by
          rw [List.mem_singleton.mp hq]; exact h1
        simp -implicitDefEqProofs only [E__filled_0, a_seq, a_expr, a_ret, a_retO, a_set, a_setO, a_if, a_unp, a_for, a_nil, a_retN, a_then_0, a_then_1, a_then_2, a_then_3, a_sK_0, a_sK_1, a_ifS_0, a_ifS_1, a_ifS_2, a_k_0, a_k_1, a_k_2, a_k_3, a_k_4, a_k_5, a_k_6, a_setV, a_setOd, a_setVK_0, a_setVK_1, a_setVK_2, a_setVK_3, a_setVK_4, a_setVK_5, a_c, a_var, a_varK_0, a_varK_1, a_bin, a_binK_0, a_binK_1, a_binK_2, a_binK_3, a_oE_0, a_oE_1, a_un, a_unK_0, a_unK_1, a_unK_2, a_unK_3, a_test, a_tru, a_not, a_asB_0, a_asB_1, a_asB_2, a_asB_3, a_lst_0, a_lst_1, a_and, a_or, a_andK_0, a_andK_1, a_andK_2, a_andK_3, a_andK_4, a_andK_5, a_dIf, a_tand, a_tor, a_tnot, a_ifK_0, a_ifK_1, a_ifK_2, a_ifK_3, a_ifK_4, a_cons, a_consK_0, a_consK_1, a_consK_2, a_consK_3, a_consK_4, a_refA, a_refK_0, a_refK_1, a_refK_2, a_cb, a_tup, a_dLst, a_vals0, a_vals1, a_vals2, a_vals3, a_vals4, call_eq, callO_eq, a_call1, a_call2, a_call3, a_call4, a_rf0, a_rf1, a_rf2, a_rfK_0, a_rfK_1, a_rfK_2, a_end0_0, a_end0_1, a_end0_2, a_end0_3, a_end1, a_put1_0, a_put1_1, a_look, a_lkK_0, a_lkK_1, a_lkK_2, a_ixV, a_ixK_0, a_ixK_1, a_ixK_2, a_lenV, a_truV, a_len_0, a_len_1, a_len_2, a_len_3, a_len_4, a_it, a_rg1, a_rgL, a_en, a_zp, a_itK_0, a_itK_1, a_itK_2, a_itE_0, a_itE_1, a_comp, a_compK_0, a_compK_1, a_isi, a_isO, a_gI_0, a_gI_1, a_gI_2, List.getElem?_cons_zero, List.getElem?_cons_succ, List.set_cons_zero, List.set_cons_succ, Option.bind_some, Option.map_some, f_nil, f_cons, f_some, f_nx, f_ct, f_bk, f_rt, f_ex, a_putV, a_pv0, a_pv1, a_put, a_sp0, a_sp1, a_sp2, a_sp3, a_sp4, a_app, a_sa1, a_sa2, a_aug, a_au1, a_au2, a_au3, gEq_int, gNe_int, ct_rf, ct_own, if_true, if_false, Bool.false_eq_true, a_try, a_tryK_0, a_tryK_1, a_tryK_2, a_tryH_0, a_tryH_1, a_tryK2_0, a_tryK2_1, a_hdS_0, a_hdS_1, a_compX, a_compKX_0, a_fld, a_meth, a_prop, a_propK, a_propE, a_make, a_makeK, a_makeE, a_putF, a_pfK, a_lkv, a_lkvK, a_dct1, a_dct1K, a_dct1K2, a_dct2, a_key, a_putK, a_pk0, a_pk1, a_pk2, a_rg2, a_rg2K, a_rg2K2, a_oL, a_raiseF, a_xr1, a_xr2, a_rgDn, a_xf, a_sortK, a_listK, a_lsK, a_tix, a_tixK, a_isX, a_isxK, a_binV, a_get2, a_g2K, a_ixk, a_ixkK, a_ixkE, a_sl, a_slK0, a_slK1, a_slH, a_slL, a_slE, a_slLst, a_slTup, a_cw, a_tupV, a_tpK, a_cwb, a_ch, a_chK, a_ch1, a_ch2, a_ch2', a_ch3, hq]⟩
      exact q
    have i0 : ∀ (a : D) (t : List D), idxD (.tup (a :: t)) (.int 0) = some a := fun a t => ix_any true (k := 0) rfl
    have t1 : ∀ a : D, gTupD [a] = some (.tup [a]) := fun a => if_pos (le_line (by show 1 ≤ 4096; decide))
    have ga : ∀ (a : D) (b : List D), b.length ≤ 3 → gAdd (.tup [a]) (.tup b) = some (.tup (a :: b)) := fun a b h => gaT [a] b (by show 1 + b.length ≤ _; omega)
    cases s with
    | le i =>
      have hi : i < ps.length := of_decide_eq_true ho
      have g := put_get h3 hi
      show fn__filled (n + 1) [.str (ltr i), putD ps] = _
      rw [o__filled]
      simp -implicitDefEqProofs only [F__filled, a_seq, a_expr, a_ret, a_retO, a_set, a_setO, a_if, a_unp, a_for, a_nil, a_retN, a_then_0, a_then_1, a_then_2, a_then_3, a_sK_0, a_sK_1, a_ifS_0, a_ifS_1, a_ifS_2, a_k_0, a_k_1, a_k_2, a_k_3, a_k_4, a_k_5, a_k_6, a_setV, a_setOd, a_setVK_0, a_setVK_1, a_setVK_2, a_setVK_3, a_setVK_4, a_setVK_5, a_c, a_var, a_varK_0, a_varK_1, a_bin, a_binK_0, a_binK_1, a_binK_2, a_binK_3, a_oE_0, a_oE_1, a_un, a_unK_0, a_unK_1, a_unK_2, a_unK_3, a_test, a_tru, a_not, a_asB_0, a_asB_1, a_asB_2, a_asB_3, a_lst_0, a_lst_1, a_and, a_or, a_andK_0, a_andK_1, a_andK_2, a_andK_3, a_andK_4, a_andK_5, a_dIf, a_tand, a_tor, a_tnot, a_ifK_0, a_ifK_1, a_ifK_2, a_ifK_3, a_ifK_4, a_cons, a_consK_0, a_consK_1, a_consK_2, a_consK_3, a_consK_4, a_refA, a_refK_0, a_refK_1, a_refK_2, a_cb, a_tup, a_dLst, a_vals0, a_vals1, a_vals2, a_vals3, a_vals4, call_eq, callO_eq, a_call1, a_call2, a_call3, a_call4, a_rf0, a_rf1, a_rf2, a_rfK_0, a_rfK_1, a_rfK_2, a_end0_0, a_end0_1, a_end0_2, a_end0_3, a_end1, a_put1_0, a_put1_1, a_look, a_lkK_0, a_lkK_1, a_lkK_2, a_ixV, a_ixK_0, a_ixK_1, a_ixK_2, a_lenV, a_truV, a_len_0, a_len_1, a_len_2, a_len_3, a_len_4, a_it, a_rg1, a_rgL, a_en, a_zp, a_itK_0, a_itK_1, a_itK_2, a_itE_0, a_itE_1, a_comp, a_compK_0, a_compK_1, a_isi, a_isO, a_gI_0, a_gI_1, a_gI_2, List.getElem?_cons_zero, List.getElem?_cons_succ, List.set_cons_zero, List.set_cons_succ, Option.bind_some, Option.map_some, f_nil, f_cons, f_some, f_nx, f_ct, f_bk, f_rt, f_ex, a_putV, a_pv0, a_pv1, a_put, a_sp0, a_sp1, a_sp2, a_sp3, a_sp4, a_app, a_sa1, a_sa2, a_aug, a_au1, a_au2, a_au3, gEq_int, gNe_int, ct_rf, ct_own, if_true, if_false, Bool.false_eq_true, a_try, a_tryK_0, a_tryK_1, a_tryK_2, a_tryH_0, a_tryH_1, a_tryK2_0, a_tryK2_1, a_hdS_0, a_hdS_1, a_compX, a_compKX_0, a_fld, a_meth, a_prop, a_propK, a_propE, a_make, a_makeK, a_makeE, a_putF, a_pfK, a_lkv, a_lkvK, a_dct1, a_dct1K, a_dct1K2, a_dct2, a_key, a_putK, a_pk0, a_pk1, a_pk2, a_rg2, a_rg2K, a_rg2K2, a_oL, a_raiseF, a_xr1, a_xr2, a_rgDn, a_xf, a_sortK, a_listK, a_lsK, a_tix, a_tixK, a_isX, a_isxK, a_binV, a_get2, a_g2K, a_ixk, a_ixkK, a_ixkE, a_sl, a_slK0, a_slK1, a_slH, a_slL, a_slE, a_slLst, a_slTup, a_cw, a_tupV, a_tpK, a_cwb, a_ch, a_chK, a_ch1, a_ch2, a_ch2', a_ch3, isS, ixkRP, g]
      rfl
    | no =>
      have g := ga (.str "nothing") [] (by decide)
      show fn__filled (n + 1) [.tup [.str "nothing"], putD ps] = _
      rw [o__filled]
      have c0 : compL (setV 2) dYes (E__filled_0 (fn__filled n)) [2] [] [.val (.tup [.str "nothing"]), .val (putD ps), .un] [] = .ok (.lst []) [.val (.tup [.str "nothing"]), .val (putD ps), .un] := rfl
      simp -implicitDefEqProofs only [F__filled, a_seq, a_expr, a_ret, a_retO, a_set, a_setO, a_if, a_unp, a_for, a_nil, a_retN, a_then_0, a_then_1, a_then_2, a_then_3, a_sK_0, a_sK_1, a_ifS_0, a_ifS_1, a_ifS_2, a_k_0, a_k_1, a_k_2, a_k_3, a_k_4, a_k_5, a_k_6, a_setV, a_setOd, a_setVK_0, a_setVK_1, a_setVK_2, a_setVK_3, a_setVK_4, a_setVK_5, a_c, a_var, a_varK_0, a_varK_1, a_bin, a_binK_0, a_binK_1, a_binK_2, a_binK_3, a_oE_0, a_oE_1, a_un, a_unK_0, a_unK_1, a_unK_2, a_unK_3, a_test, a_tru, a_not, a_asB_0, a_asB_1, a_asB_2, a_asB_3, a_lst_0, a_lst_1, a_and, a_or, a_andK_0, a_andK_1, a_andK_2, a_andK_3, a_andK_4, a_andK_5, a_dIf, a_tand, a_tor, a_tnot, a_ifK_0, a_ifK_1, a_ifK_2, a_ifK_3, a_ifK_4, a_cons, a_consK_0, a_consK_1, a_consK_2, a_consK_3, a_consK_4, a_refA, a_refK_0, a_refK_1, a_refK_2, a_cb, a_tup, a_dLst, a_vals0, a_vals1, a_vals2, a_vals3, a_vals4, call_eq, callO_eq, a_call1, a_call2, a_call3, a_call4, a_rf0, a_rf1, a_rf2, a_rfK_0, a_rfK_1, a_rfK_2, a_end0_0, a_end0_1, a_end0_2, a_end0_3, a_end1, a_put1_0, a_put1_1, a_look, a_lkK_0, a_lkK_1, a_lkK_2, a_ixV, a_ixK_0, a_ixK_1, a_ixK_2, a_lenV, a_truV, a_len_0, a_len_1, a_len_2, a_len_3, a_len_4, a_it, a_rg1, a_rgL, a_en, a_zp, a_itK_0, a_itK_1, a_itK_2, a_itE_0, a_itE_1, a_comp, a_compK_0, a_compK_1, a_isi, a_isO, a_gI_0, a_gI_1, a_gI_2, List.getElem?_cons_zero, List.getElem?_cons_succ, List.set_cons_zero, List.set_cons_succ, Option.bind_some, Option.map_some, f_nil, f_cons, f_some, f_nx, f_ct, f_bk, f_rt, f_ex, a_putV, a_pv0, a_pv1, a_put, a_sp0, a_sp1, a_sp2, a_sp3, a_sp4, a_app, a_sa1, a_sa2, a_aug, a_au1, a_au2, a_au3, gEq_int, gNe_int, ct_rf, ct_own, if_true, if_false, Bool.false_eq_true, a_try, a_tryK_0, a_tryK_1, a_tryK_2, a_tryH_0, a_tryH_1, a_tryK2_0, a_tryK2_1, a_hdS_0, a_hdS_1, a_compX, a_compKX_0, a_fld, a_meth, a_prop, a_propK, a_propE, a_make, a_makeK, a_makeE, a_putF, a_pfK, a_lkv, a_lkvK, a_dct1, a_dct1K, a_dct1K2, a_dct2, a_key, a_putK, a_pk0, a_pk1, a_pk2, a_rg2, a_rg2K, a_rg2K2, a_oL, a_raiseF, a_xr1, a_xr2, a_rgDn, a_xf, a_sortK, a_listK, a_lsK, a_tix, a_tixK, a_isX, a_isxK, a_binV, a_get2, a_g2K, a_ixk, a_ixkK, a_ixkE, a_sl, a_slK0, a_slK1, a_slH, a_slL, a_slE, a_slLst, a_slTup, a_cw, a_tupV, a_tpK, a_cwb, a_ch, a_chK, a_ch1, a_ch2, a_ch2', a_ch3, isTupS, i0, t1, cut0, it_tup, c0, tup_of, g]
      rfl
    | be a b =>
      have ho : (a.ok ps.length && b.ok ps.length) = true := ho
      rw [Bool.and_eq_true] at ho
      have hd : max a.dp b.dp + 1 ≤ n + 1 := hd
      have q := c2 (shD a) (shD b) (fil ps a) (fil ps b) (ih a (by omega) ho.1) (ih b (by omega) ho.2) (.tup [.str "behind", shD a, shD b])
      have g := ga (.str "behind") [pgD (fil ps a), pgD (fil ps b)] (by show 2 ≤ 3; decide)
      show fn__filled (n + 1) [.tup [.str "behind", shD a, shD b], putD ps] = _
      rw [o__filled]
      simp -implicitDefEqProofs only [F__filled, a_seq, a_expr, a_ret, a_retO, a_set, a_setO, a_if, a_unp, a_for, a_nil, a_retN, a_then_0, a_then_1, a_then_2, a_then_3, a_sK_0, a_sK_1, a_ifS_0, a_ifS_1, a_ifS_2, a_k_0, a_k_1, a_k_2, a_k_3, a_k_4, a_k_5, a_k_6, a_setV, a_setOd, a_setVK_0, a_setVK_1, a_setVK_2, a_setVK_3, a_setVK_4, a_setVK_5, a_c, a_var, a_varK_0, a_varK_1, a_bin, a_binK_0, a_binK_1, a_binK_2, a_binK_3, a_oE_0, a_oE_1, a_un, a_unK_0, a_unK_1, a_unK_2, a_unK_3, a_test, a_tru, a_not, a_asB_0, a_asB_1, a_asB_2, a_asB_3, a_lst_0, a_lst_1, a_and, a_or, a_andK_0, a_andK_1, a_andK_2, a_andK_3, a_andK_4, a_andK_5, a_dIf, a_tand, a_tor, a_tnot, a_ifK_0, a_ifK_1, a_ifK_2, a_ifK_3, a_ifK_4, a_cons, a_consK_0, a_consK_1, a_consK_2, a_consK_3, a_consK_4, a_refA, a_refK_0, a_refK_1, a_refK_2, a_cb, a_tup, a_dLst, a_vals0, a_vals1, a_vals2, a_vals3, a_vals4, call_eq, callO_eq, a_call1, a_call2, a_call3, a_call4, a_rf0, a_rf1, a_rf2, a_rfK_0, a_rfK_1, a_rfK_2, a_end0_0, a_end0_1, a_end0_2, a_end0_3, a_end1, a_put1_0, a_put1_1, a_look, a_lkK_0, a_lkK_1, a_lkK_2, a_ixV, a_ixK_0, a_ixK_1, a_ixK_2, a_lenV, a_truV, a_len_0, a_len_1, a_len_2, a_len_3, a_len_4, a_it, a_rg1, a_rgL, a_en, a_zp, a_itK_0, a_itK_1, a_itK_2, a_itE_0, a_itE_1, a_comp, a_compK_0, a_compK_1, a_isi, a_isO, a_gI_0, a_gI_1, a_gI_2, List.getElem?_cons_zero, List.getElem?_cons_succ, List.set_cons_zero, List.set_cons_succ, Option.bind_some, Option.map_some, f_nil, f_cons, f_some, f_nx, f_ct, f_bk, f_rt, f_ex, a_putV, a_pv0, a_pv1, a_put, a_sp0, a_sp1, a_sp2, a_sp3, a_sp4, a_app, a_sa1, a_sa2, a_aug, a_au1, a_au2, a_au3, gEq_int, gNe_int, ct_rf, ct_own, if_true, if_false, Bool.false_eq_true, a_try, a_tryK_0, a_tryK_1, a_tryK_2, a_tryH_0, a_tryH_1, a_tryK2_0, a_tryK2_1, a_hdS_0, a_hdS_1, a_compX, a_compKX_0, a_fld, a_meth, a_prop, a_propK, a_propE, a_make, a_makeK, a_makeE, a_putF, a_pfK, a_lkv, a_lkvK, a_dct1, a_dct1K, a_dct1K2, a_dct2, a_key, a_putK, a_pk0, a_pk1, a_pk2, a_rg2, a_rg2K, a_rg2K2, a_oL, a_raiseF, a_xr1, a_xr2, a_rgDn, a_xf, a_sortK, a_listK, a_lsK, a_tix, a_tixK, a_isX, a_isxK, a_binV, a_get2, a_g2K, a_ixk, a_ixkK, a_ixkE, a_sl, a_slK0, a_slK1, a_slH, a_slL, a_slE, a_slLst, a_slTup, a_cw, a_tupV, a_tpK, a_cwb, a_ch, a_chK, a_ch1, a_ch2, a_ch2', a_ch3, isTupS, i0, t1, cut2', it_tup, q, tup_of, g]
      rfl
    | ei a b =>
      have ho : (a.ok ps.length && b.ok ps.length) = true := ho
      rw [Bool.and_eq_true] at ho
      have hd : max a.dp b.dp + 1 ≤ n + 1 := hd
      have q := c2 (shD a) (shD b) (fil ps a) (fil ps b) (ih a (by omega) ho.1) (ih b (by omega) ho.2) (.tup [.str "either", shD a, shD b])
      have g := ga (.str "either") [pgD (fil ps a), pgD (fil ps b)] (by show 2 ≤ 3; decide)
      show fn__filled (n + 1) [.tup [.str "either", shD a, shD b], putD ps] = _
      rw [o__filled]
      simp -implicitDefEqProofs only [F__filled, a_seq, a_expr, a_ret, a_retO, a_set, a_setO, a_if, a_unp, a_for, a_nil, a_retN, a_then_0, a_then_1, a_then_2, a_then_3, a_sK_0, a_sK_1, a_ifS_0, a_ifS_1, a_ifS_2, a_k_0, a_k_1, a_k_2, a_k_3, a_k_4, a_k_5, a_k_6, a_setV, a_setOd, a_setVK_0, a_setVK_1, a_setVK_2, a_setVK_3, a_setVK_4, a_setVK_5, a_c, a_var, a_varK_0, a_varK_1, a_bin, a_binK_0, a_binK_1, a_binK_2, a_binK_3, a_oE_0, a_oE_1, a_un, a_unK_0, a_unK_1, a_unK_2, a_unK_3, a_test, a_tru, a_not, a_asB_0, a_asB_1, a_asB_2, a_asB_3, a_lst_0, a_lst_1, a_and, a_or, a_andK_0, a_andK_1, a_andK_2, a_andK_3, a_andK_4, a_andK_5, a_dIf, a_tand, a_tor, a_tnot, a_ifK_0, a_ifK_1, a_ifK_2, a_ifK_3, a_ifK_4, a_cons, a_consK_0, a_consK_1, a_consK_2, a_consK_3, a_consK_4, a_refA, a_refK_0, a_refK_1, a_refK_2, a_cb, a_tup, a_dLst, a_vals0, a_vals1, a_vals2, a_vals3, a_vals4, call_eq, callO_eq, a_call1, a_call2, a_call3, a_call4, a_rf0, a_rf1, a_rf2, a_rfK_0, a_rfK_1, a_rfK_2, a_end0_0, a_end0_1, a_end0_2, a_end0_3, a_end1, a_put1_0, a_put1_1, a_look, a_lkK_0, a_lkK_1, a_lkK_2, a_ixV, a_ixK_0, a_ixK_1, a_ixK_2, a_lenV, a_truV, a_len_0, a_len_1, a_len_2, a_len_3, a_len_4, a_it, a_rg1, a_rgL, a_en, a_zp, a_itK_0, a_itK_1, a_itK_2, a_itE_0, a_itE_1, a_comp, a_compK_0, a_compK_1, a_isi, a_isO, a_gI_0, a_gI_1, a_gI_2, List.getElem?_cons_zero, List.getElem?_cons_succ, List.set_cons_zero, List.set_cons_succ, Option.bind_some, Option.map_some, f_nil, f_cons, f_some, f_nx, f_ct, f_bk, f_rt, f_ex, a_putV, a_pv0, a_pv1, a_put, a_sp0, a_sp1, a_sp2, a_sp3, a_sp4, a_app, a_sa1, a_sa2, a_aug, a_au1, a_au2, a_au3, gEq_int, gNe_int, ct_rf, ct_own, if_true, if_false, Bool.false_eq_true, a_try, a_tryK_0, a_tryK_1, a_tryK_2, a_tryH_0, a_tryH_1, a_tryK2_0, a_tryK2_1, a_hdS_0, a_hdS_1, a_compX, a_compKX_0, a_fld, a_meth, a_prop, a_propK, a_propE, a_make, a_makeK, a_makeE, a_putF, a_pfK, a_lkv, a_lkvK, a_dct1, a_dct1K, a_dct1K2, a_dct2, a_key, a_putK, a_pk0, a_pk1, a_pk2, a_rg2, a_rg2K, a_rg2K2, a_oL, a_raiseF, a_xr1, a_xr2, a_rgDn, a_xf, a_sortK, a_listK, a_lsK, a_tix, a_tixK, a_isX, a_isxK, a_binV, a_get2, a_g2K, a_ixk, a_ixkK, a_ixkE, a_sl, a_slK0, a_slK1, a_slH, a_slL, a_slE, a_slLst, a_slTup, a_cw, a_tupV, a_tpK, a_cwb, a_ch, a_chK, a_ch1, a_ch2, a_ch2', a_ch3, isTupS, i0, t1, cut2', it_tup, q, tup_of, g]
      rfl
    | ag a =>
      have hd : a.dp + 1 ≤ n + 1 := hd
      have q := c1 (shD a) (fil ps a) (ih a (by omega) ho) (.tup [.str "again", shD a])
      have g := ga (.str "again") [pgD (fil ps a)] (by show 1 ≤ 3; decide)
      show fn__filled (n + 1) [.tup [.str "again", shD a], putD ps] = _
      rw [o__filled]
      simp -implicitDefEqProofs only [F__filled, a_seq, a_expr, a_ret, a_retO, a_set, a_setO, a_if, a_unp, a_for, a_nil, a_retN, a_then_0, a_then_1, a_then_2, a_then_3, a_sK_0, a_sK_1, a_ifS_0, a_ifS_1, a_ifS_2, a_k_0, a_k_1, a_k_2, a_k_3, a_k_4, a_k_5, a_k_6, a_setV, a_setOd, a_setVK_0, a_setVK_1, a_setVK_2, a_setVK_3, a_setVK_4, a_setVK_5, a_c, a_var, a_varK_0, a_varK_1, a_bin, a_binK_0, a_binK_1, a_binK_2, a_binK_3, a_oE_0, a_oE_1, a_un, a_unK_0, a_unK_1, a_unK_2, a_unK_3, a_test, a_tru, a_not, a_asB_0, a_asB_1, a_asB_2, a_asB_3, a_lst_0, a_lst_1, a_and, a_or, a_andK_0, a_andK_1, a_andK_2, a_andK_3, a_andK_4, a_andK_5, a_dIf, a_tand, a_tor, a_tnot, a_ifK_0, a_ifK_1, a_ifK_2, a_ifK_3, a_ifK_4, a_cons, a_consK_0, a_consK_1, a_consK_2, a_consK_3, a_consK_4, a_refA, a_refK_0, a_refK_1, a_refK_2, a_cb, a_tup, a_dLst, a_vals0, a_vals1, a_vals2, a_vals3, a_vals4, call_eq, callO_eq, a_call1, a_call2, a_call3, a_call4, a_rf0, a_rf1, a_rf2, a_rfK_0, a_rfK_1, a_rfK_2, a_end0_0, a_end0_1, a_end0_2, a_end0_3, a_end1, a_put1_0, a_put1_1, a_look, a_lkK_0, a_lkK_1, a_lkK_2, a_ixV, a_ixK_0, a_ixK_1, a_ixK_2, a_lenV, a_truV, a_len_0, a_len_1, a_len_2, a_len_3, a_len_4, a_it, a_rg1, a_rgL, a_en, a_zp, a_itK_0, a_itK_1, a_itK_2, a_itE_0, a_itE_1, a_comp, a_compK_0, a_compK_1, a_isi, a_isO, a_gI_0, a_gI_1, a_gI_2, List.getElem?_cons_zero, List.getElem?_cons_succ, List.set_cons_zero, List.set_cons_succ, Option.bind_some, Option.map_some, f_nil, f_cons, f_some, f_nx, f_ct, f_bk, f_rt, f_ex, a_putV, a_pv0, a_pv1, a_put, a_sp0, a_sp1, a_sp2, a_sp3, a_sp4, a_app, a_sa1, a_sa2, a_aug, a_au1, a_au2, a_au3, gEq_int, gNe_int, ct_rf, ct_own, if_true, if_false, Bool.false_eq_true, a_try, a_tryK_0, a_tryK_1, a_tryK_2, a_tryH_0, a_tryH_1, a_tryK2_0, a_tryK2_1, a_hdS_0, a_hdS_1, a_compX, a_compKX_0, a_fld, a_meth, a_prop, a_propK, a_propE, a_make, a_makeK, a_makeE, a_putF, a_pfK, a_lkv, a_lkvK, a_dct1, a_dct1K, a_dct1K2, a_dct2, a_key, a_putK, a_pk0, a_pk1, a_pk2, a_rg2, a_rg2K, a_rg2K2, a_oL, a_raiseF, a_xr1, a_xr2, a_rgDn, a_xf, a_sortK, a_listK, a_lsK, a_tix, a_tixK, a_isX, a_isxK, a_binV, a_get2, a_g2K, a_ixk, a_ixkK, a_ixkE, a_sl, a_slK0, a_slK1, a_slH, a_slL, a_slE, a_slLst, a_slTup, a_cw, a_tupV, a_tpK, a_cwb, a_ch, a_chK, a_ch1, a_ch2, a_ch2', a_ch3, isTupS, i0, t1, cut1, it_tup, q, tup_of, g]
      rfl
theorem findN : (List.range 3).all (fun i => decide (Txt.find "rst" (ltr i) = (i : Int))) = true := by decide +kernel
theorem find_l {i : Nat} (h : i < 3) : gFind "rst" (.str (ltr i)) = some (.int (i : Int)) := by
  have := of_decide_eq_true (List.all_eq_true.mp findN i (List.mem_range.mpr h))
  show some (D.int (Txt.find "rst" (ltr i))) = _
  rw [this]
theorem lput_ev {ps : List Pg} (h3 : ps.length ≤ 3) : ∀ (n : Nat) (s : Sh), s.dp ≤ n → s.ok ps.length = true → fn__law_put n [shD s, .lst (pgs ps)] = .ret (pgD (fil ps s)) [] := by
  intro n
  induction n with
  | zero => intro s h; cases s <;> simp [Sh.dp] at h
  | succ n ih =>
    intro s hd ho
    have c2 : ∀ (x y : D) (a b : Pg), fn__law_put n [x, .lst (pgs ps)] = .ret (pgD a) [] → fn__law_put n [y, .lst (pgs ps)] = .ret (pgD b) [] → ∀ z : D, compL (setV 2) dYes (E__law_put_0 (fn__law_put n)) [2] [x, y] [.val z, .val (.lst (pgs ps)), .un] [] = .ok (.lst [pgD a, pgD b]) [.val z, .val (.lst (pgs ps)), .un] := fun x y a b h1 h2 z => by
      have q := comp_anyS (A := setV 2) (t := dYes) (el := E__law_put_0 (fn__law_put n)) (vs := [2]) (δ := [.val z, .val (.lst (pgs ps)), .un]) (it := fun q : D × Pg => q.1) (Γ := fun q : D × Pg => [.val z, .val (.lst (pgs ps)), .val q.1]) (g := fun q : D × Pg => pgD q.2) (fun _ => true) rfl (fun _ => rfl) (fun _ => rfl) [(x, a), (y, b)] [] (by show 2 ≤ 4096; decide) fun q hq => ⟨rfl, fun _ => by
        have hq : fn__law_put n [q.1, .lst (pgs ps)] = .ret (pgD q.2) [] := by
          rcases List.mem_cons.mp hq with rfl | hq
          · exact h1
          · rw [List.mem_singleton.mp hq]; exact h2
        simp -implicitDefEqProofs only [E__law_put_0, a_seq, a_expr, a_ret, a_retO, a_set, a_setO, a_if, a_unp, a_for, a_nil, a_retN, a_then_0, a_then_1, a_then_2, a_then_3, a_sK_0, a_sK_1, a_ifS_0, a_ifS_1, a_ifS_2, a_k_0, a_k_1, a_k_2, a_k_3, a_k_4, a_k_5, a_k_6, a_setV, a_setOd, a_setVK_0, a_setVK_1, a_setVK_2, a_setVK_3, a_setVK_4, a_setVK_5, a_c, a_var, a_varK_0, a_varK_1, a_bin, a_binK_0, a_binK_1, a_binK_2, a_binK_3, a_oE_0, a_oE_1, a_un, a_unK_0, a_unK_1, a_unK_2, a_unK_3, a_test, a_tru, a_not, a_asB_0, a_asB_1, a_asB_2, a_asB_3, a_lst_0, a_lst_1, a_and, a_or, a_andK_0, a_andK_1, a_andK_2, a_andK_3, a_andK_4, a_andK_5, a_dIf, a_tand, a_tor, a_tnot, a_ifK_0, a_ifK_1, a_ifK_2, a_ifK_3, a_ifK_4, a_cons, a_consK_0, a_consK_1, a_consK_2, a_consK_3, a_consK_4, a_refA, a_refK_0, a_refK_1, a_refK_2, a_cb, a_tup, a_dLst, a_vals0, a_vals1, a_vals2, a_vals3, a_vals4, call_eq, callO_eq, a_call1, a_call2, a_call3, a_call4, a_rf0, a_rf1, a_rf2, a_rfK_0, a_rfK_1, a_rfK_2, a_end0_0, a_end0_1, a_end0_2, a_end0_3, a_end1, a_put1_0, a_put1_1, a_look, a_lkK_0, a_lkK_1, a_lkK_2, a_ixV, a_ixK_0, a_ixK_1, a_ixK_2, a_lenV, a_truV, a_len_0, a_len_1, a_len_2, a_len_3, a_len_4, a_it, a_rg1, a_rgL, a_en, a_zp, a_itK_0, a_itK_1, a_itK_2, a_itE_0, a_itE_1, a_comp, a_compK_0, a_compK_1, a_isi, a_isO, a_gI_0, a_gI_1, a_gI_2, List.getElem?_cons_zero, List.getElem?_cons_succ, List.set_cons_zero, List.set_cons_succ, Option.bind_some, Option.map_some, f_nil, f_cons, f_some, f_nx, f_ct, f_bk, f_rt, f_ex, a_putV, a_pv0, a_pv1, a_put, a_sp0, a_sp1, a_sp2, a_sp3, a_sp4, a_app, a_sa1, a_sa2, a_aug, a_au1, a_au2, a_au3, gEq_int, gNe_int, ct_rf, ct_own, if_true, if_false, Bool.false_eq_true, a_try, a_tryK_0, a_tryK_1, a_tryK_2, a_tryH_0, a_tryH_1, a_tryK2_0, a_tryK2_1, a_hdS_0, a_hdS_1, a_compX, a_compKX_0, a_fld, a_meth, a_prop, a_propK, a_propE, a_make, a_makeK, a_makeE, a_putF, a_pfK, a_lkv, a_lkvK, a_dct1, a_dct1K, a_dct1K2, a_dct2, a_key, a_putK, a_pk0, a_pk1, a_pk2, a_rg2, a_rg2K, a_rg2K2, a_oL, a_raiseF, a_xr1, a_xr2, a_rgDn, a_xf, a_sortK, a_listK, a_lsK, a_tix, a_tixK, a_isX, a_isxK, a_binV, a_get2, a_g2K, a_ixk, a_ixkK, a_ixkE, a_sl, a_slK0, a_slK1, a_slH, a_slL, a_slE, a_slLst, a_slTup, a_cw, a_tupV, a_tpK, a_cwb, a_ch, a_chK, a_ch1, a_ch2, a_ch2', a_ch3, hq]⟩
      exact q
    have c1 : ∀ (x : D) (a : Pg), fn__law_put n [x, .lst (pgs ps)] = .ret (pgD a) [] → ∀ z : D, compL (setV 2) dYes (E__law_put_0 (fn__law_put n)) [2] [x] [.val z, .val (.lst (pgs ps)), .un] [] = .ok (.lst [pgD a]) [.val z, .val (.lst (pgs ps)), .un] := fun x a h1 z => by
      have q := comp_anyS (A := setV 2) (t := dYes) (el := E__law_put_0 (fn__law_put n)) (vs := [2]) (δ := [.val z, .val (.lst (pgs ps)), .un]) (it := fun q : D × Pg => q.1) (Γ := fun q : D × Pg => [.val z, .val (.lst (pgs ps)), .val q.1]) (g := fun q : D × Pg => pgD q.2) (fun _ => true) rfl (fun _ => rfl) (fun _ => rfl) [(x, a)] [] (by show 1 ≤ 4096; decide) fun q hq => ⟨rfl, fun _ => by
        have hq : fn__law_put n [q.1, .lst (pgs ps)] = .ret (pgD q.2) [] := by
          rw [List.mem_singleton.mp hq]; exact h1
        simp -implicitDefEqProofs only [E__law_put_0, a_seq, a_expr, a_ret, a_retO, a_set, a_setO, a_if, a_unp, a_for, a_nil, a_retN, a_then_0, a_then_1, a_then_2, a_then_3, a_sK_0, a_sK_1, a_ifS_0, a_ifS_1, a_ifS_2, a_k_0, a_k_1, a_k_2, a_k_3, a_k_4, a_k_5, a_k_6, a_setV, a_setOd, a_setVK_0, a_setVK_1, a_setVK_2, a_setVK_3, a_setVK_4, a_setVK_5, a_c, a_var, a_varK_0, a_varK_1, a_bin, a_binK_0, a_binK_1, a_binK_2, a_binK_3, a_oE_0, a_oE_1, a_un, a_unK_0, a_unK_1, a_unK_2, a_unK_3, a_test, a_tru, a_not, a_asB_0, a_asB_1, a_asB_2, a_asB_3, a_lst_0, a_lst_1, a_and, a_or, a_andK_0, a_andK_1, a_andK_2, a_andK_3, a_andK_4, a_andK_5, a_dIf, a_tand, a_tor, a_tnot, a_ifK_0, a_ifK_1, a_ifK_2, a_ifK_3, a_ifK_4, a_cons, a_consK_0, a_consK_1, a_consK_2, a_consK_3, a_consK_4, a_refA, a_refK_0, a_refK_1, a_refK_2, a_cb, a_tup, a_dLst, a_vals0, a_vals1, a_vals2, a_vals3, a_vals4, call_eq, callO_eq, a_call1, a_call2, a_call3, a_call4, a_rf0, a_rf1, a_rf2, a_rfK_0, a_rfK_1, a_rfK_2, a_end0_0, a_end0_1, a_end0_2, a_end0_3, a_end1, a_put1_0, a_put1_1, a_look, a_lkK_0, a_lkK_1, a_lkK_2, a_ixV, a_ixK_0, a_ixK_1, a_ixK_2, a_lenV, a_truV, a_len_0, a_len_1, a_len_2, a_len_3, a_len_4, a_it, a_rg1, a_rgL, a_en, a_zp, a_itK_0, a_itK_1, a_itK_2, a_itE_0, a_itE_1, a_comp, a_compK_0, a_compK_1, a_isi, a_isO, a_gI_0, a_gI_1, a_gI_2, List.getElem?_cons_zero, List.getElem?_cons_succ, List.set_cons_zero, List.set_cons_succ, Option.bind_some, Option.map_some, f_nil, f_cons, f_some, f_nx, f_ct, f_bk, f_rt, f_ex, a_putV, a_pv0, a_pv1, a_put, a_sp0, a_sp1, a_sp2, a_sp3, a_sp4, a_app, a_sa1, a_sa2, a_aug, a_au1, a_au2, a_au3, gEq_int, gNe_int, ct_rf, ct_own, if_true, if_false, Bool.false_eq_true, a_try, a_tryK_0, a_tryK_1, a_tryK_2, a_tryH_0, a_tryH_1, a_tryK2_0, a_tryK2_1, a_hdS_0, a_hdS_1, a_compX, a_compKX_0, a_fld, a_meth, a_prop, a_propK, a_propE, a_make, a_makeK, a_makeE, a_putF, a_pfK, a_lkv, a_lkvK, a_dct1, a_dct1K, a_dct1K2, a_dct2, a_key, a_putK, a_pk0, a_pk1, a_pk2, a_rg2, a_rg2K, a_rg2K2, a_oL, a_raiseF, a_xr1, a_xr2, a_rgDn, a_xf, a_sortK, a_listK, a_lsK, a_tix, a_tixK, a_isX, a_isxK, a_binV, a_get2, a_g2K, a_ixk, a_ixkK, a_ixkE, a_sl, a_slK0, a_slK1, a_slH, a_slL, a_slE, a_slLst, a_slTup, a_cw, a_tupV, a_tpK, a_cwb, a_ch, a_chK, a_ch1, a_ch2, a_ch2', a_ch3, hq]⟩
      exact q
    have i0 : ∀ (a : D) (t : List D), idxD (.tup (a :: t)) (.int 0) = some a := fun a t => ix_any true (k := 0) rfl
    have l1 : ∀ a : D, gLstD [a] = some (.lst [a]) := fun a => if_pos (le_line (by show 1 ≤ 4096; decide))
    have ga : ∀ (a : D) (b : List D), b.length ≤ 3 → gAdd (.lst [a]) (.lst b) = some (.lst (a :: b)) := fun a b h => gaL [a] b (by show 1 + b.length ≤ _; omega)
    cases s with
    | le i =>
      have hi : i < ps.length := of_decide_eq_true ho
      have f := find_l (show i < 3 by omega)
      have ix : idxD (.lst (pgs ps)) (.int (i : Int)) = some (pgD (ps.getD i .no)) := ix_any false (by
        show (pgs ps)[i]? = _
        unfold pgs
        rw [List.getElem?_map, List.getElem?_eq_getElem hi, List.getD_eq_getElem?_getD, List.getElem?_eq_getElem hi]; rfl)
      show fn__law_put (n + 1) [.str (ltr i), .lst (pgs ps)] = _
      rw [o__law_put]
      simp -implicitDefEqProofs only [F__law_put, a_seq, a_expr, a_ret, a_retO, a_set, a_setO, a_if, a_unp, a_for, a_nil, a_retN, a_then_0, a_then_1, a_then_2, a_then_3, a_sK_0, a_sK_1, a_ifS_0, a_ifS_1, a_ifS_2, a_k_0, a_k_1, a_k_2, a_k_3, a_k_4, a_k_5, a_k_6, a_setV, a_setOd, a_setVK_0, a_setVK_1, a_setVK_2, a_setVK_3, a_setVK_4, a_setVK_5, a_c, a_var, a_varK_0, a_varK_1, a_bin, a_binK_0, a_binK_1, a_binK_2, a_binK_3, a_oE_0, a_oE_1, a_un, a_unK_0, a_unK_1, a_unK_2, a_unK_3, a_test, a_tru, a_not, a_asB_0, a_asB_1, a_asB_2, a_asB_3, a_lst_0, a_lst_1, a_and, a_or, a_andK_0, a_andK_1, a_andK_2, a_andK_3, a_andK_4, a_andK_5, a_dIf, a_tand, a_tor, a_tnot, a_ifK_0, a_ifK_1, a_ifK_2, a_ifK_3, a_ifK_4, a_cons, a_consK_0, a_consK_1, a_consK_2, a_consK_3, a_consK_4, a_refA, a_refK_0, a_refK_1, a_refK_2, a_cb, a_tup, a_dLst, a_vals0, a_vals1, a_vals2, a_vals3, a_vals4, call_eq, callO_eq, a_call1, a_call2, a_call3, a_call4, a_rf0, a_rf1, a_rf2, a_rfK_0, a_rfK_1, a_rfK_2, a_end0_0, a_end0_1, a_end0_2, a_end0_3, a_end1, a_put1_0, a_put1_1, a_look, a_lkK_0, a_lkK_1, a_lkK_2, a_ixV, a_ixK_0, a_ixK_1, a_ixK_2, a_lenV, a_truV, a_len_0, a_len_1, a_len_2, a_len_3, a_len_4, a_it, a_rg1, a_rgL, a_en, a_zp, a_itK_0, a_itK_1, a_itK_2, a_itE_0, a_itE_1, a_comp, a_compK_0, a_compK_1, a_isi, a_isO, a_gI_0, a_gI_1, a_gI_2, List.getElem?_cons_zero, List.getElem?_cons_succ, List.set_cons_zero, List.set_cons_succ, Option.bind_some, Option.map_some, f_nil, f_cons, f_some, f_nx, f_ct, f_bk, f_rt, f_ex, a_putV, a_pv0, a_pv1, a_put, a_sp0, a_sp1, a_sp2, a_sp3, a_sp4, a_app, a_sa1, a_sa2, a_aug, a_au1, a_au2, a_au3, gEq_int, gNe_int, ct_rf, ct_own, if_true, if_false, Bool.false_eq_true, a_try, a_tryK_0, a_tryK_1, a_tryK_2, a_tryH_0, a_tryH_1, a_tryK2_0, a_tryK2_1, a_hdS_0, a_hdS_1, a_compX, a_compKX_0, a_fld, a_meth, a_prop, a_propK, a_propE, a_make, a_makeK, a_makeE, a_putF, a_pfK, a_lkv, a_lkvK, a_dct1, a_dct1K, a_dct1K2, a_dct2, a_key, a_putK, a_pk0, a_pk1, a_pk2, a_rg2, a_rg2K, a_rg2K2, a_oL, a_raiseF, a_xr1, a_xr2, a_rgDn, a_xf, a_sortK, a_listK, a_lsK, a_tix, a_tixK, a_isX, a_isxK, a_binV, a_get2, a_g2K, a_ixk, a_ixkK, a_ixkE, a_sl, a_slK0, a_slK1, a_slH, a_slL, a_slE, a_slLst, a_slTup, a_cw, a_tupV, a_tpK, a_cwb, a_ch, a_chK, a_ch1, a_ch2, a_ch2', a_ch3, isS, f, ix]
      rfl
    | no =>
      have g := ga (.str "nothing") [] (by decide)
      show fn__law_put (n + 1) [.tup [.str "nothing"], .lst (pgs ps)] = _
      rw [o__law_put]
      have c0 : compL (setV 2) dYes (E__law_put_0 (fn__law_put n)) [2] [] [.val (.tup [.str "nothing"]), .val (.lst (pgs ps)), .un] [] = .ok (.lst []) [.val (.tup [.str "nothing"]), .val (.lst (pgs ps)), .un] := rfl
      simp -implicitDefEqProofs only [F__law_put, a_seq, a_expr, a_ret, a_retO, a_set, a_setO, a_if, a_unp, a_for, a_nil, a_retN, a_then_0, a_then_1, a_then_2, a_then_3, a_sK_0, a_sK_1, a_ifS_0, a_ifS_1, a_ifS_2, a_k_0, a_k_1, a_k_2, a_k_3, a_k_4, a_k_5, a_k_6, a_setV, a_setOd, a_setVK_0, a_setVK_1, a_setVK_2, a_setVK_3, a_setVK_4, a_setVK_5, a_c, a_var, a_varK_0, a_varK_1, a_bin, a_binK_0, a_binK_1, a_binK_2, a_binK_3, a_oE_0, a_oE_1, a_un, a_unK_0, a_unK_1, a_unK_2, a_unK_3, a_test, a_tru, a_not, a_asB_0, a_asB_1, a_asB_2, a_asB_3, a_lst_0, a_lst_1, a_and, a_or, a_andK_0, a_andK_1, a_andK_2, a_andK_3, a_andK_4, a_andK_5, a_dIf, a_tand, a_tor, a_tnot, a_ifK_0, a_ifK_1, a_ifK_2, a_ifK_3, a_ifK_4, a_cons, a_consK_0, a_consK_1, a_consK_2, a_consK_3, a_consK_4, a_refA, a_refK_0, a_refK_1, a_refK_2, a_cb, a_tup, a_dLst, a_vals0, a_vals1, a_vals2, a_vals3, a_vals4, call_eq, callO_eq, a_call1, a_call2, a_call3, a_call4, a_rf0, a_rf1, a_rf2, a_rfK_0, a_rfK_1, a_rfK_2, a_end0_0, a_end0_1, a_end0_2, a_end0_3, a_end1, a_put1_0, a_put1_1, a_look, a_lkK_0, a_lkK_1, a_lkK_2, a_ixV, a_ixK_0, a_ixK_1, a_ixK_2, a_lenV, a_truV, a_len_0, a_len_1, a_len_2, a_len_3, a_len_4, a_it, a_rg1, a_rgL, a_en, a_zp, a_itK_0, a_itK_1, a_itK_2, a_itE_0, a_itE_1, a_comp, a_compK_0, a_compK_1, a_isi, a_isO, a_gI_0, a_gI_1, a_gI_2, List.getElem?_cons_zero, List.getElem?_cons_succ, List.set_cons_zero, List.set_cons_succ, Option.bind_some, Option.map_some, f_nil, f_cons, f_some, f_nx, f_ct, f_bk, f_rt, f_ex, a_putV, a_pv0, a_pv1, a_put, a_sp0, a_sp1, a_sp2, a_sp3, a_sp4, a_app, a_sa1, a_sa2, a_aug, a_au1, a_au2, a_au3, gEq_int, gNe_int, ct_rf, ct_own, if_true, if_false, Bool.false_eq_true, a_try, a_tryK_0, a_tryK_1, a_tryK_2, a_tryH_0, a_tryH_1, a_tryK2_0, a_tryK2_1, a_hdS_0, a_hdS_1, a_compX, a_compKX_0, a_fld, a_meth, a_prop, a_propK, a_propE, a_make, a_makeK, a_makeE, a_putF, a_pfK, a_lkv, a_lkvK, a_dct1, a_dct1K, a_dct1K2, a_dct2, a_key, a_putK, a_pk0, a_pk1, a_pk2, a_rg2, a_rg2K, a_rg2K2, a_oL, a_raiseF, a_xr1, a_xr2, a_rgDn, a_xf, a_sortK, a_listK, a_lsK, a_tix, a_tixK, a_isX, a_isxK, a_binV, a_get2, a_g2K, a_ixk, a_ixkK, a_ixkE, a_sl, a_slK0, a_slK1, a_slH, a_slL, a_slE, a_slLst, a_slTup, a_cw, a_tupV, a_tpK, a_cwb, a_ch, a_chK, a_ch1, a_ch2, a_ch2', a_ch3, isTupS, i0, l1, cut0, it_tup, c0, tup_of, g]
      rfl
    | be a b =>
      have ho : (a.ok ps.length && b.ok ps.length) = true := ho
      rw [Bool.and_eq_true] at ho
      have hd : max a.dp b.dp + 1 ≤ n + 1 := hd
      have q := c2 (shD a) (shD b) (fil ps a) (fil ps b) (ih a (by omega) ho.1) (ih b (by omega) ho.2) (.tup [.str "behind", shD a, shD b])
      have g := ga (.str "behind") [pgD (fil ps a), pgD (fil ps b)] (by show 2 ≤ 3; decide)
      show fn__law_put (n + 1) [.tup [.str "behind", shD a, shD b], .lst (pgs ps)] = _
      rw [o__law_put]
      simp -implicitDefEqProofs only [F__law_put, a_seq, a_expr, a_ret, a_retO, a_set, a_setO, a_if, a_unp, a_for, a_nil, a_retN, a_then_0, a_then_1, a_then_2, a_then_3, a_sK_0, a_sK_1, a_ifS_0, a_ifS_1, a_ifS_2, a_k_0, a_k_1, a_k_2, a_k_3, a_k_4, a_k_5, a_k_6, a_setV, a_setOd, a_setVK_0, a_setVK_1, a_setVK_2, a_setVK_3, a_setVK_4, a_setVK_5, a_c, a_var, a_varK_0, a_varK_1, a_bin, a_binK_0, a_binK_1, a_binK_2, a_binK_3, a_oE_0, a_oE_1, a_un, a_unK_0, a_unK_1, a_unK_2, a_unK_3, a_test, a_tru, a_not, a_asB_0, a_asB_1, a_asB_2, a_asB_3, a_lst_0, a_lst_1, a_and, a_or, a_andK_0, a_andK_1, a_andK_2, a_andK_3, a_andK_4, a_andK_5, a_dIf, a_tand, a_tor, a_tnot, a_ifK_0, a_ifK_1, a_ifK_2, a_ifK_3, a_ifK_4, a_cons, a_consK_0, a_consK_1, a_consK_2, a_consK_3, a_consK_4, a_refA, a_refK_0, a_refK_1, a_refK_2, a_cb, a_tup, a_dLst, a_vals0, a_vals1, a_vals2, a_vals3, a_vals4, call_eq, callO_eq, a_call1, a_call2, a_call3, a_call4, a_rf0, a_rf1, a_rf2, a_rfK_0, a_rfK_1, a_rfK_2, a_end0_0, a_end0_1, a_end0_2, a_end0_3, a_end1, a_put1_0, a_put1_1, a_look, a_lkK_0, a_lkK_1, a_lkK_2, a_ixV, a_ixK_0, a_ixK_1, a_ixK_2, a_lenV, a_truV, a_len_0, a_len_1, a_len_2, a_len_3, a_len_4, a_it, a_rg1, a_rgL, a_en, a_zp, a_itK_0, a_itK_1, a_itK_2, a_itE_0, a_itE_1, a_comp, a_compK_0, a_compK_1, a_isi, a_isO, a_gI_0, a_gI_1, a_gI_2, List.getElem?_cons_zero, List.getElem?_cons_succ, List.set_cons_zero, List.set_cons_succ, Option.bind_some, Option.map_some, f_nil, f_cons, f_some, f_nx, f_ct, f_bk, f_rt, f_ex, a_putV, a_pv0, a_pv1, a_put, a_sp0, a_sp1, a_sp2, a_sp3, a_sp4, a_app, a_sa1, a_sa2, a_aug, a_au1, a_au2, a_au3, gEq_int, gNe_int, ct_rf, ct_own, if_true, if_false, Bool.false_eq_true, a_try, a_tryK_0, a_tryK_1, a_tryK_2, a_tryH_0, a_tryH_1, a_tryK2_0, a_tryK2_1, a_hdS_0, a_hdS_1, a_compX, a_compKX_0, a_fld, a_meth, a_prop, a_propK, a_propE, a_make, a_makeK, a_makeE, a_putF, a_pfK, a_lkv, a_lkvK, a_dct1, a_dct1K, a_dct1K2, a_dct2, a_key, a_putK, a_pk0, a_pk1, a_pk2, a_rg2, a_rg2K, a_rg2K2, a_oL, a_raiseF, a_xr1, a_xr2, a_rgDn, a_xf, a_sortK, a_listK, a_lsK, a_tix, a_tixK, a_isX, a_isxK, a_binV, a_get2, a_g2K, a_ixk, a_ixkK, a_ixkE, a_sl, a_slK0, a_slK1, a_slH, a_slL, a_slE, a_slLst, a_slTup, a_cw, a_tupV, a_tpK, a_cwb, a_ch, a_chK, a_ch1, a_ch2, a_ch2', a_ch3, isTupS, i0, l1, cut2', it_tup, q, tup_of, g]
      rfl
    | ei a b =>
      have ho : (a.ok ps.length && b.ok ps.length) = true := ho
      rw [Bool.and_eq_true] at ho
      have hd : max a.dp b.dp + 1 ≤ n + 1 := hd
      have q := c2 (shD a) (shD b) (fil ps a) (fil ps b) (ih a (by omega) ho.1) (ih b (by omega) ho.2) (.tup [.str "either", shD a, shD b])
      have g := ga (.str "either") [pgD (fil ps a), pgD (fil ps b)] (by show 2 ≤ 3; decide)
      show fn__law_put (n + 1) [.tup [.str "either", shD a, shD b], .lst (pgs ps)] = _
      rw [o__law_put]
      simp -implicitDefEqProofs only [F__law_put, a_seq, a_expr, a_ret, a_retO, a_set, a_setO, a_if, a_unp, a_for, a_nil, a_retN, a_then_0, a_then_1, a_then_2, a_then_3, a_sK_0, a_sK_1, a_ifS_0, a_ifS_1, a_ifS_2, a_k_0, a_k_1, a_k_2, a_k_3, a_k_4, a_k_5, a_k_6, a_setV, a_setOd, a_setVK_0, a_setVK_1, a_setVK_2, a_setVK_3, a_setVK_4, a_setVK_5, a_c, a_var, a_varK_0, a_varK_1, a_bin, a_binK_0, a_binK_1, a_binK_2, a_binK_3, a_oE_0, a_oE_1, a_un, a_unK_0, a_unK_1, a_unK_2, a_unK_3, a_test, a_tru, a_not, a_asB_0, a_asB_1, a_asB_2, a_asB_3, a_lst_0, a_lst_1, a_and, a_or, a_andK_0, a_andK_1, a_andK_2, a_andK_3, a_andK_4, a_andK_5, a_dIf, a_tand, a_tor, a_tnot, a_ifK_0, a_ifK_1, a_ifK_2, a_ifK_3, a_ifK_4, a_cons, a_consK_0, a_consK_1, a_consK_2, a_consK_3, a_consK_4, a_refA, a_refK_0, a_refK_1, a_refK_2, a_cb, a_tup, a_dLst, a_vals0, a_vals1, a_vals2, a_vals3, a_vals4, call_eq, callO_eq, a_call1, a_call2, a_call3, a_call4, a_rf0, a_rf1, a_rf2, a_rfK_0, a_rfK_1, a_rfK_2, a_end0_0, a_end0_1, a_end0_2, a_end0_3, a_end1, a_put1_0, a_put1_1, a_look, a_lkK_0, a_lkK_1, a_lkK_2, a_ixV, a_ixK_0, a_ixK_1, a_ixK_2, a_lenV, a_truV, a_len_0, a_len_1, a_len_2, a_len_3, a_len_4, a_it, a_rg1, a_rgL, a_en, a_zp, a_itK_0, a_itK_1, a_itK_2, a_itE_0, a_itE_1, a_comp, a_compK_0, a_compK_1, a_isi, a_isO, a_gI_0, a_gI_1, a_gI_2, List.getElem?_cons_zero, List.getElem?_cons_succ, List.set_cons_zero, List.set_cons_succ, Option.bind_some, Option.map_some, f_nil, f_cons, f_some, f_nx, f_ct, f_bk, f_rt, f_ex, a_putV, a_pv0, a_pv1, a_put, a_sp0, a_sp1, a_sp2, a_sp3, a_sp4, a_app, a_sa1, a_sa2, a_aug, a_au1, a_au2, a_au3, gEq_int, gNe_int, ct_rf, ct_own, if_true, if_false, Bool.false_eq_true, a_try, a_tryK_0, a_tryK_1, a_tryK_2, a_tryH_0, a_tryH_1, a_tryK2_0, a_tryK2_1, a_hdS_0, a_hdS_1, a_compX, a_compKX_0, a_fld, a_meth, a_prop, a_propK, a_propE, a_make, a_makeK, a_makeE, a_putF, a_pfK, a_lkv, a_lkvK, a_dct1, a_dct1K, a_dct1K2, a_dct2, a_key, a_putK, a_pk0, a_pk1, a_pk2, a_rg2, a_rg2K, a_rg2K2, a_oL, a_raiseF, a_xr1, a_xr2, a_rgDn, a_xf, a_sortK, a_listK, a_lsK, a_tix, a_tixK, a_isX, a_isxK, a_binV, a_get2, a_g2K, a_ixk, a_ixkK, a_ixkE, a_sl, a_slK0, a_slK1, a_slH, a_slL, a_slE, a_slLst, a_slTup, a_cw, a_tupV, a_tpK, a_cwb, a_ch, a_chK, a_ch1, a_ch2, a_ch2', a_ch3, isTupS, i0, l1, cut2', it_tup, q, tup_of, g]
      rfl
    | ag a =>
      have hd : a.dp + 1 ≤ n + 1 := hd
      have q := c1 (shD a) (fil ps a) (ih a (by omega) ho) (.tup [.str "again", shD a])
      have g := ga (.str "again") [pgD (fil ps a)] (by show 1 ≤ 3; decide)
      show fn__law_put (n + 1) [.tup [.str "again", shD a], .lst (pgs ps)] = _
      rw [o__law_put]
      simp -implicitDefEqProofs only [F__law_put, a_seq, a_expr, a_ret, a_retO, a_set, a_setO, a_if, a_unp, a_for, a_nil, a_retN, a_then_0, a_then_1, a_then_2, a_then_3, a_sK_0, a_sK_1, a_ifS_0, a_ifS_1, a_ifS_2, a_k_0, a_k_1, a_k_2, a_k_3, a_k_4, a_k_5, a_k_6, a_setV, a_setOd, a_setVK_0, a_setVK_1, a_setVK_2, a_setVK_3, a_setVK_4, a_setVK_5, a_c, a_var, a_varK_0, a_varK_1, a_bin, a_binK_0, a_binK_1, a_binK_2, a_binK_3, a_oE_0, a_oE_1, a_un, a_unK_0, a_unK_1, a_unK_2, a_unK_3, a_test, a_tru, a_not, a_asB_0, a_asB_1, a_asB_2, a_asB_3, a_lst_0, a_lst_1, a_and, a_or, a_andK_0, a_andK_1, a_andK_2, a_andK_3, a_andK_4, a_andK_5, a_dIf, a_tand, a_tor, a_tnot, a_ifK_0, a_ifK_1, a_ifK_2, a_ifK_3, a_ifK_4, a_cons, a_consK_0, a_consK_1, a_consK_2, a_consK_3, a_consK_4, a_refA, a_refK_0, a_refK_1, a_refK_2, a_cb, a_tup, a_dLst, a_vals0, a_vals1, a_vals2, a_vals3, a_vals4, call_eq, callO_eq, a_call1, a_call2, a_call3, a_call4, a_rf0, a_rf1, a_rf2, a_rfK_0, a_rfK_1, a_rfK_2, a_end0_0, a_end0_1, a_end0_2, a_end0_3, a_end1, a_put1_0, a_put1_1, a_look, a_lkK_0, a_lkK_1, a_lkK_2, a_ixV, a_ixK_0, a_ixK_1, a_ixK_2, a_lenV, a_truV, a_len_0, a_len_1, a_len_2, a_len_3, a_len_4, a_it, a_rg1, a_rgL, a_en, a_zp, a_itK_0, a_itK_1, a_itK_2, a_itE_0, a_itE_1, a_comp, a_compK_0, a_compK_1, a_isi, a_isO, a_gI_0, a_gI_1, a_gI_2, List.getElem?_cons_zero, List.getElem?_cons_succ, List.set_cons_zero, List.set_cons_succ, Option.bind_some, Option.map_some, f_nil, f_cons, f_some, f_nx, f_ct, f_bk, f_rt, f_ex, a_putV, a_pv0, a_pv1, a_put, a_sp0, a_sp1, a_sp2, a_sp3, a_sp4, a_app, a_sa1, a_sa2, a_aug, a_au1, a_au2, a_au3, gEq_int, gNe_int, ct_rf, ct_own, if_true, if_false, Bool.false_eq_true, a_try, a_tryK_0, a_tryK_1, a_tryK_2, a_tryH_0, a_tryH_1, a_tryK2_0, a_tryK2_1, a_hdS_0, a_hdS_1, a_compX, a_compKX_0, a_fld, a_meth, a_prop, a_propK, a_propE, a_make, a_makeK, a_makeE, a_putF, a_pfK, a_lkv, a_lkvK, a_dct1, a_dct1K, a_dct1K2, a_dct2, a_key, a_putK, a_pk0, a_pk1, a_pk2, a_rg2, a_rg2K, a_rg2K2, a_oL, a_raiseF, a_xr1, a_xr2, a_rgDn, a_xf, a_sortK, a_listK, a_lsK, a_tix, a_tixK, a_isX, a_isxK, a_binV, a_get2, a_g2K, a_ixk, a_ixkK, a_ixkE, a_sl, a_slK0, a_slK1, a_slH, a_slL, a_slE, a_slLst, a_slTup, a_cw, a_tupV, a_tpK, a_cwb, a_ch, a_chK, a_ch1, a_ch2, a_ch2', a_ch3, isTupS, i0, l1, cut1, it_tup, q, tup_of, g]
      rfl
end LW

set_option maxRecDepth 100000
set_option maxHeartbeats 8000000
namespace LW
open PySem PySem.Spec PyProof.Rows L2 DL
theorem unp3T (i j k : Nat) (a b c : D) (δ : DEnv) : dUnp [i, j, k] (.tup [a, b, c]) δ = (setV i a δ).bind fun δ1 => (setV j b δ1).bind fun δ2 => (setV k c δ2).bind some := rfl
theorem cut4 (a b c d : D) : cutL [a, b, c, d] none (some 3) = [a, b, c] := rfl
theorem len_sq (q : Bool) (ds : List D) : lenD (sq q ds) = some ds.length := by cases q <;> rfl
theorem zip_ev (q : Bool) : ∀ {ps : List Pg}, ps.length ≤ 3 → gDictZipB [.tup [.str "r", .str "s", .str "t"], sq q (pgs ps)] = some (putD ps) := fun {ps} h3 => by
  have k : keysOfD [.str "r", .str "s", .str "t"] = some ks3 := rfl
  have e : itsD0 (sq q (pgs ps)) = some (pgs ps) := by cases q <;> rfl
  have s : seqT (.tup [.str "r", .str "s", .str "t"]) = some [.str "r", .str "s", .str "t"] := rfl
  unfold gDictZipB
  simp only [s, e, k, Option.bind_some]
  have c : (pgs ps).length ≤ ks3.length ∧ ks3.length ≤ 4096 ∧ ks3.Nodup := ⟨by rw [pgs_len]; exact h3, by decide, by decide⟩
  rw [if_pos c, pgs_len]
  rfl
theorem pair_ev (q : Bool) {e : En} (h : e ∈ ents) {ps : List Pg} (hp : ps.length = e.many) : fn_rewriting_pair [.str e.nm, sq q (pgs ps)] = .ret (.tup [pgD (fil ps e.lt), pgD (fil ps e.rt)]) [] := by
  have o := ok_ev h
  have h3 : ps.length ≤ 3 := by rw [hp]; exact o.m3
  have r : fn__rewriting_of [.str e.nm] = .ret (.tup [.int (e.many : Int), shD e.lt, shD e.rt, .str e.vd]) [] := rwof_ev h
  have s := seq_ev q (pgs ps)
  have l := len_sq q (pgs ps)
  have b : (((pgs ps).length : Int) == (e.many : Int)) = true := by rw [pgs_len, hp]; exact beq_self_eq_true _
  have z := zip_ev q h3
  have f1 := fill_ev h3 5 e.lt o.ld (by rw [hp]; exact o.l)
  have f2 := fill_ev h3 5 e.rt o.rd (by rw [hp]; exact o.r)
  have t2 : ∀ a b : D, gTupD [a, b] = some (.tup [a, b]) := fun a b => if_pos (le_line (by show 2 ≤ 4096; decide))
  rw [o_rewriting_pair]
  simp -implicitDefEqProofs only [F_rewriting_pair, a_seq, a_expr, a_ret, a_retO, a_set, a_setO, a_if, a_unp, a_for, a_nil, a_retN, a_then_0, a_then_1, a_then_2, a_then_3, a_sK_0, a_sK_1, a_ifS_0, a_ifS_1, a_ifS_2, a_k_0, a_k_1, a_k_2, a_k_3, a_k_4, a_k_5, a_k_6, a_setV, a_setOd, a_setVK_0, a_setVK_1, a_setVK_2, a_setVK_3, a_setVK_4, a_setVK_5, a_c, a_var, a_varK_0, a_varK_1, a_bin, a_binK_0, a_binK_1, a_binK_2, a_binK_3, a_oE_0, a_oE_1, a_un, a_unK_0, a_unK_1, a_unK_2, a_unK_3, a_test, a_tru, a_not, a_asB_0, a_asB_1, a_asB_2, a_asB_3, a_lst_0, a_lst_1, a_and, a_or, a_andK_0, a_andK_1, a_andK_2, a_andK_3, a_andK_4, a_andK_5, a_dIf, a_tand, a_tor, a_tnot, a_ifK_0, a_ifK_1, a_ifK_2, a_ifK_3, a_ifK_4, a_cons, a_consK_0, a_consK_1, a_consK_2, a_consK_3, a_consK_4, a_refA, a_refK_0, a_refK_1, a_refK_2, a_cb, a_tup, a_dLst, a_vals0, a_vals1, a_vals2, a_vals3, a_vals4, call_eq, callO_eq, a_call1, a_call2, a_call3, a_call4, a_rf0, a_rf1, a_rf2, a_rfK_0, a_rfK_1, a_rfK_2, a_end0_0, a_end0_1, a_end0_2, a_end0_3, a_end1, a_put1_0, a_put1_1, a_look, a_lkK_0, a_lkK_1, a_lkK_2, a_ixV, a_ixK_0, a_ixK_1, a_ixK_2, a_lenV, a_truV, a_len_0, a_len_1, a_len_2, a_len_3, a_len_4, a_it, a_rg1, a_rgL, a_en, a_zp, a_itK_0, a_itK_1, a_itK_2, a_itE_0, a_itE_1, a_comp, a_compK_0, a_compK_1, a_isi, a_isO, a_gI_0, a_gI_1, a_gI_2, List.getElem?_cons_zero, List.getElem?_cons_succ, List.set_cons_zero, List.set_cons_succ, Option.bind_some, Option.map_some, f_nil, f_cons, f_some, f_nx, f_ct, f_bk, f_rt, f_ex, a_putV, a_pv0, a_pv1, a_put, a_sp0, a_sp1, a_sp2, a_sp3, a_sp4, a_app, a_sa1, a_sa2, a_aug, a_au1, a_au2, a_au3, gEq_int, gNe_int, ct_rf, ct_own, if_true, if_false, Bool.false_eq_true, a_try, a_tryK_0, a_tryK_1, a_tryK_2, a_tryH_0, a_tryH_1, a_tryK2_0, a_tryK2_1, a_hdS_0, a_hdS_1, a_compX, a_compKX_0, a_fld, a_meth, a_prop, a_propK, a_propE, a_make, a_makeK, a_makeE, a_putF, a_pfK, a_lkv, a_lkvK, a_dct1, a_dct1K, a_dct1K2, a_dct2, a_key, a_putK, a_pk0, a_pk1, a_pk2, a_rg2, a_rg2K, a_rg2K2, a_oL, a_raiseF, a_xr1, a_xr2, a_rgDn, a_xf, a_sortK, a_listK, a_lsK, a_tix, a_tixK, a_isX, a_isxK, a_binV, a_get2, a_g2K, a_ixk, a_ixkK, a_ixkE, a_sl, a_slK0, a_slK1, a_slH, a_slL, a_slE, a_slLst, a_slTup, a_cw, a_tupV, a_tpK, a_cwb, a_ch, a_chK, a_ch1, a_ch2, a_ch2', a_ch3, r, cut4, unp3T, s, Bool.not_true, l, b, z, f1, f2, t2]
  rfl
theorem rwof_odd {x : D} (h : fn__is_rewriting [x] = .ret (.bl false) []) : fn__rewriting_of [x] = .ex "BadRewriting" ["what"] [.str "name"] [] := by
  rw [o__rewriting_of]
  simp -implicitDefEqProofs only [F__rewriting_of, a_seq, a_expr, a_ret, a_retO, a_set, a_setO, a_if, a_unp, a_for, a_nil, a_retN, a_then_0, a_then_1, a_then_2, a_then_3, a_sK_0, a_sK_1, a_ifS_0, a_ifS_1, a_ifS_2, a_k_0, a_k_1, a_k_2, a_k_3, a_k_4, a_k_5, a_k_6, a_setV, a_setOd, a_setVK_0, a_setVK_1, a_setVK_2, a_setVK_3, a_setVK_4, a_setVK_5, a_c, a_var, a_varK_0, a_varK_1, a_bin, a_binK_0, a_binK_1, a_binK_2, a_binK_3, a_oE_0, a_oE_1, a_un, a_unK_0, a_unK_1, a_unK_2, a_unK_3, a_test, a_tru, a_not, a_asB_0, a_asB_1, a_asB_2, a_asB_3, a_lst_0, a_lst_1, a_and, a_or, a_andK_0, a_andK_1, a_andK_2, a_andK_3, a_andK_4, a_andK_5, a_dIf, a_tand, a_tor, a_tnot, a_ifK_0, a_ifK_1, a_ifK_2, a_ifK_3, a_ifK_4, a_cons, a_consK_0, a_consK_1, a_consK_2, a_consK_3, a_consK_4, a_refA, a_refK_0, a_refK_1, a_refK_2, a_cb, a_tup, a_dLst, a_vals0, a_vals1, a_vals2, a_vals3, a_vals4, call_eq, callO_eq, a_call1, a_call2, a_call3, a_call4, a_rf0, a_rf1, a_rf2, a_rfK_0, a_rfK_1, a_rfK_2, a_end0_0, a_end0_1, a_end0_2, a_end0_3, a_end1, a_put1_0, a_put1_1, a_look, a_lkK_0, a_lkK_1, a_lkK_2, a_ixV, a_ixK_0, a_ixK_1, a_ixK_2, a_lenV, a_truV, a_len_0, a_len_1, a_len_2, a_len_3, a_len_4, a_it, a_rg1, a_rgL, a_en, a_zp, a_itK_0, a_itK_1, a_itK_2, a_itE_0, a_itE_1, a_comp, a_compK_0, a_compK_1, a_isi, a_isO, a_gI_0, a_gI_1, a_gI_2, List.getElem?_cons_zero, List.getElem?_cons_succ, List.set_cons_zero, List.set_cons_succ, Option.bind_some, Option.map_some, f_nil, f_cons, f_some, f_nx, f_ct, f_bk, f_rt, f_ex, a_putV, a_pv0, a_pv1, a_put, a_sp0, a_sp1, a_sp2, a_sp3, a_sp4, a_app, a_sa1, a_sa2, a_aug, a_au1, a_au2, a_au3, gEq_int, gNe_int, ct_rf, ct_own, if_true, if_false, Bool.false_eq_true, a_try, a_tryK_0, a_tryK_1, a_tryK_2, a_tryH_0, a_tryH_1, a_tryK2_0, a_tryK2_1, a_hdS_0, a_hdS_1, a_compX, a_compKX_0, a_fld, a_meth, a_prop, a_propK, a_propE, a_make, a_makeK, a_makeE, a_putF, a_pfK, a_lkv, a_lkvK, a_dct1, a_dct1K, a_dct1K2, a_dct2, a_key, a_putK, a_pk0, a_pk1, a_pk2, a_rg2, a_rg2K, a_rg2K2, a_oL, a_raiseF, a_xr1, a_xr2, a_rgDn, a_xf, a_sortK, a_listK, a_lsK, a_tix, a_tixK, a_isX, a_isxK, a_binV, a_get2, a_g2K, a_ixk, a_ixkK, a_ixkE, a_sl, a_slK0, a_slK1, a_slH, a_slL, a_slE, a_slLst, a_slTup, a_cw, a_tupV, a_tpK, a_cwb, a_ch, a_chK, a_ch1, a_ch2, a_ch2', a_ch3, h, Bool.not_false]
  rfl
theorem verdict_odd {x : D} (h : fn__is_rewriting [x] = .ret (.bl false) []) : fn_verdict_of [x] = .ex "BadRewriting" ["what"] [.str "name"] [] := by
  have r := rwof_odd h
  rw [o_verdict_of]
  simp -implicitDefEqProofs only [F_verdict_of, a_seq, a_expr, a_ret, a_retO, a_set, a_setO, a_if, a_unp, a_for, a_nil, a_retN, a_then_0, a_then_1, a_then_2, a_then_3, a_sK_0, a_sK_1, a_ifS_0, a_ifS_1, a_ifS_2, a_k_0, a_k_1, a_k_2, a_k_3, a_k_4, a_k_5, a_k_6, a_setV, a_setOd, a_setVK_0, a_setVK_1, a_setVK_2, a_setVK_3, a_setVK_4, a_setVK_5, a_c, a_var, a_varK_0, a_varK_1, a_bin, a_binK_0, a_binK_1, a_binK_2, a_binK_3, a_oE_0, a_oE_1, a_un, a_unK_0, a_unK_1, a_unK_2, a_unK_3, a_test, a_tru, a_not, a_asB_0, a_asB_1, a_asB_2, a_asB_3, a_lst_0, a_lst_1, a_and, a_or, a_andK_0, a_andK_1, a_andK_2, a_andK_3, a_andK_4, a_andK_5, a_dIf, a_tand, a_tor, a_tnot, a_ifK_0, a_ifK_1, a_ifK_2, a_ifK_3, a_ifK_4, a_cons, a_consK_0, a_consK_1, a_consK_2, a_consK_3, a_consK_4, a_refA, a_refK_0, a_refK_1, a_refK_2, a_cb, a_tup, a_dLst, a_vals0, a_vals1, a_vals2, a_vals3, a_vals4, call_eq, callO_eq, a_call1, a_call2, a_call3, a_call4, a_rf0, a_rf1, a_rf2, a_rfK_0, a_rfK_1, a_rfK_2, a_end0_0, a_end0_1, a_end0_2, a_end0_3, a_end1, a_put1_0, a_put1_1, a_look, a_lkK_0, a_lkK_1, a_lkK_2, a_ixV, a_ixK_0, a_ixK_1, a_ixK_2, a_lenV, a_truV, a_len_0, a_len_1, a_len_2, a_len_3, a_len_4, a_it, a_rg1, a_rgL, a_en, a_zp, a_itK_0, a_itK_1, a_itK_2, a_itE_0, a_itE_1, a_comp, a_compK_0, a_compK_1, a_isi, a_isO, a_gI_0, a_gI_1, a_gI_2, List.getElem?_cons_zero, List.getElem?_cons_succ, List.set_cons_zero, List.set_cons_succ, Option.bind_some, Option.map_some, f_nil, f_cons, f_some, f_nx, f_ct, f_bk, f_rt, f_ex, a_putV, a_pv0, a_pv1, a_put, a_sp0, a_sp1, a_sp2, a_sp3, a_sp4, a_app, a_sa1, a_sa2, a_aug, a_au1, a_au2, a_au3, gEq_int, gNe_int, ct_rf, ct_own, if_true, if_false, Bool.false_eq_true, a_try, a_tryK_0, a_tryK_1, a_tryK_2, a_tryH_0, a_tryH_1, a_tryK2_0, a_tryK2_1, a_hdS_0, a_hdS_1, a_compX, a_compKX_0, a_fld, a_meth, a_prop, a_propK, a_propE, a_make, a_makeK, a_makeE, a_putF, a_pfK, a_lkv, a_lkvK, a_dct1, a_dct1K, a_dct1K2, a_dct2, a_key, a_putK, a_pk0, a_pk1, a_pk2, a_rg2, a_rg2K, a_rg2K2, a_oL, a_raiseF, a_xr1, a_xr2, a_rgDn, a_xf, a_sortK, a_listK, a_lsK, a_tix, a_tixK, a_isX, a_isxK, a_binV, a_get2, a_g2K, a_ixk, a_ixkK, a_ixkE, a_sl, a_slK0, a_slK1, a_slH, a_slL, a_slE, a_slLst, a_slTup, a_cw, a_tupV, a_tpK, a_cwb, a_ch, a_chK, a_ch1, a_ch2, a_ch2', a_ch3, r]
  rfl
theorem letters_odd {x : D} (h : fn__is_rewriting [x] = .ret (.bl false) []) : fn_letters_of [x] = .ex "BadRewriting" ["what"] [.str "name"] [] := by
  have r := rwof_odd h
  rw [o_letters_of]
  simp -implicitDefEqProofs only [F_letters_of, a_seq, a_expr, a_ret, a_retO, a_set, a_setO, a_if, a_unp, a_for, a_nil, a_retN, a_then_0, a_then_1, a_then_2, a_then_3, a_sK_0, a_sK_1, a_ifS_0, a_ifS_1, a_ifS_2, a_k_0, a_k_1, a_k_2, a_k_3, a_k_4, a_k_5, a_k_6, a_setV, a_setOd, a_setVK_0, a_setVK_1, a_setVK_2, a_setVK_3, a_setVK_4, a_setVK_5, a_c, a_var, a_varK_0, a_varK_1, a_bin, a_binK_0, a_binK_1, a_binK_2, a_binK_3, a_oE_0, a_oE_1, a_un, a_unK_0, a_unK_1, a_unK_2, a_unK_3, a_test, a_tru, a_not, a_asB_0, a_asB_1, a_asB_2, a_asB_3, a_lst_0, a_lst_1, a_and, a_or, a_andK_0, a_andK_1, a_andK_2, a_andK_3, a_andK_4, a_andK_5, a_dIf, a_tand, a_tor, a_tnot, a_ifK_0, a_ifK_1, a_ifK_2, a_ifK_3, a_ifK_4, a_cons, a_consK_0, a_consK_1, a_consK_2, a_consK_3, a_consK_4, a_refA, a_refK_0, a_refK_1, a_refK_2, a_cb, a_tup, a_dLst, a_vals0, a_vals1, a_vals2, a_vals3, a_vals4, call_eq, callO_eq, a_call1, a_call2, a_call3, a_call4, a_rf0, a_rf1, a_rf2, a_rfK_0, a_rfK_1, a_rfK_2, a_end0_0, a_end0_1, a_end0_2, a_end0_3, a_end1, a_put1_0, a_put1_1, a_look, a_lkK_0, a_lkK_1, a_lkK_2, a_ixV, a_ixK_0, a_ixK_1, a_ixK_2, a_lenV, a_truV, a_len_0, a_len_1, a_len_2, a_len_3, a_len_4, a_it, a_rg1, a_rgL, a_en, a_zp, a_itK_0, a_itK_1, a_itK_2, a_itE_0, a_itE_1, a_comp, a_compK_0, a_compK_1, a_isi, a_isO, a_gI_0, a_gI_1, a_gI_2, List.getElem?_cons_zero, List.getElem?_cons_succ, List.set_cons_zero, List.set_cons_succ, Option.bind_some, Option.map_some, f_nil, f_cons, f_some, f_nx, f_ct, f_bk, f_rt, f_ex, a_putV, a_pv0, a_pv1, a_put, a_sp0, a_sp1, a_sp2, a_sp3, a_sp4, a_app, a_sa1, a_sa2, a_aug, a_au1, a_au2, a_au3, gEq_int, gNe_int, ct_rf, ct_own, if_true, if_false, Bool.false_eq_true, a_try, a_tryK_0, a_tryK_1, a_tryK_2, a_tryH_0, a_tryH_1, a_tryK2_0, a_tryK2_1, a_hdS_0, a_hdS_1, a_compX, a_compKX_0, a_fld, a_meth, a_prop, a_propK, a_propE, a_make, a_makeK, a_makeE, a_putF, a_pfK, a_lkv, a_lkvK, a_dct1, a_dct1K, a_dct1K2, a_dct2, a_key, a_putK, a_pk0, a_pk1, a_pk2, a_rg2, a_rg2K, a_rg2K2, a_oL, a_raiseF, a_xr1, a_xr2, a_rgDn, a_xf, a_sortK, a_listK, a_lsK, a_tix, a_tixK, a_isX, a_isxK, a_binV, a_get2, a_g2K, a_ixk, a_ixkK, a_ixkE, a_sl, a_slK0, a_slK1, a_slH, a_slL, a_slE, a_slLst, a_slTup, a_cw, a_tupV, a_tpK, a_cwb, a_ch, a_chK, a_ch1, a_ch2, a_ch2', a_ch3, r]
  rfl
theorem pair_odd {x : D} (y : D) (h : fn__is_rewriting [x] = .ret (.bl false) []) : fn_rewriting_pair [x, y] = .ex "BadRewriting" ["what"] [.str "name"] [] := by
  have r := rwof_odd h
  rw [o_rewriting_pair]
  simp -implicitDefEqProofs only [F_rewriting_pair, a_seq, a_expr, a_ret, a_retO, a_set, a_setO, a_if, a_unp, a_for, a_nil, a_retN, a_then_0, a_then_1, a_then_2, a_then_3, a_sK_0, a_sK_1, a_ifS_0, a_ifS_1, a_ifS_2, a_k_0, a_k_1, a_k_2, a_k_3, a_k_4, a_k_5, a_k_6, a_setV, a_setOd, a_setVK_0, a_setVK_1, a_setVK_2, a_setVK_3, a_setVK_4, a_setVK_5, a_c, a_var, a_varK_0, a_varK_1, a_bin, a_binK_0, a_binK_1, a_binK_2, a_binK_3, a_oE_0, a_oE_1, a_un, a_unK_0, a_unK_1, a_unK_2, a_unK_3, a_test, a_tru, a_not, a_asB_0, a_asB_1, a_asB_2, a_asB_3, a_lst_0, a_lst_1, a_and, a_or, a_andK_0, a_andK_1, a_andK_2, a_andK_3, a_andK_4, a_andK_5, a_dIf, a_tand, a_tor, a_tnot, a_ifK_0, a_ifK_1, a_ifK_2, a_ifK_3, a_ifK_4, a_cons, a_consK_0, a_consK_1, a_consK_2, a_consK_3, a_consK_4, a_refA, a_refK_0, a_refK_1, a_refK_2, a_cb, a_tup, a_dLst, a_vals0, a_vals1, a_vals2, a_vals3, a_vals4, call_eq, callO_eq, a_call1, a_call2, a_call3, a_call4, a_rf0, a_rf1, a_rf2, a_rfK_0, a_rfK_1, a_rfK_2, a_end0_0, a_end0_1, a_end0_2, a_end0_3, a_end1, a_put1_0, a_put1_1, a_look, a_lkK_0, a_lkK_1, a_lkK_2, a_ixV, a_ixK_0, a_ixK_1, a_ixK_2, a_lenV, a_truV, a_len_0, a_len_1, a_len_2, a_len_3, a_len_4, a_it, a_rg1, a_rgL, a_en, a_zp, a_itK_0, a_itK_1, a_itK_2, a_itE_0, a_itE_1, a_comp, a_compK_0, a_compK_1, a_isi, a_isO, a_gI_0, a_gI_1, a_gI_2, List.getElem?_cons_zero, List.getElem?_cons_succ, List.set_cons_zero, List.set_cons_succ, Option.bind_some, Option.map_some, f_nil, f_cons, f_some, f_nx, f_ct, f_bk, f_rt, f_ex, a_putV, a_pv0, a_pv1, a_put, a_sp0, a_sp1, a_sp2, a_sp3, a_sp4, a_app, a_sa1, a_sa2, a_aug, a_au1, a_au2, a_au3, gEq_int, gNe_int, ct_rf, ct_own, if_true, if_false, Bool.false_eq_true, a_try, a_tryK_0, a_tryK_1, a_tryK_2, a_tryH_0, a_tryH_1, a_tryK2_0, a_tryK2_1, a_hdS_0, a_hdS_1, a_compX, a_compKX_0, a_fld, a_meth, a_prop, a_propK, a_propE, a_make, a_makeK, a_makeE, a_putF, a_pfK, a_lkv, a_lkvK, a_dct1, a_dct1K, a_dct1K2, a_dct2, a_key, a_putK, a_pk0, a_pk1, a_pk2, a_rg2, a_rg2K, a_rg2K2, a_oL, a_raiseF, a_xr1, a_xr2, a_rgDn, a_xf, a_sortK, a_listK, a_lsK, a_tix, a_tixK, a_isX, a_isxK, a_binV, a_get2, a_g2K, a_ixk, a_ixkK, a_ixkE, a_sl, a_slK0, a_slK1, a_slH, a_slL, a_slE, a_slLst, a_slTup, a_cw, a_tupV, a_tpK, a_cwb, a_ch, a_chK, a_ch1, a_ch2, a_ch2', a_ch3, r]
  rfl
/-- a thing that is no sequence, or a sequence of another length -/
inductive Many (n : Nat) : D → Prop
  | no {x : D} (h : fn_is_sequence [x] = .ret (.bl false) []) : Many n x
  | ln (q : Bool) {ds : List D} (h : ds.length ≠ n) : Many n (sq q ds)
theorem pair_many {e : En} (h : e ∈ ents) {x : D} (hx : Many e.many x) : fn_rewriting_pair [.str e.nm, x] = .ex "BadRewriting" ["what"] [.str "many"] [] := by
  have r : fn__rewriting_of [.str e.nm] = .ret (.tup [.int (e.many : Int), shD e.lt, shD e.rt, .str e.vd]) [] := rwof_ev h
  rw [o_rewriting_pair]
  cases hx with
  | no s =>
    simp -implicitDefEqProofs only [F_rewriting_pair, a_seq, a_expr, a_ret, a_retO, a_set, a_setO, a_if, a_unp, a_for, a_nil, a_retN, a_then_0, a_then_1, a_then_2, a_then_3, a_sK_0, a_sK_1, a_ifS_0, a_ifS_1, a_ifS_2, a_k_0, a_k_1, a_k_2, a_k_3, a_k_4, a_k_5, a_k_6, a_setV, a_setOd, a_setVK_0, a_setVK_1, a_setVK_2, a_setVK_3, a_setVK_4, a_setVK_5, a_c, a_var, a_varK_0, a_varK_1, a_bin, a_binK_0, a_binK_1, a_binK_2, a_binK_3, a_oE_0, a_oE_1, a_un, a_unK_0, a_unK_1, a_unK_2, a_unK_3, a_test, a_tru, a_not, a_asB_0, a_asB_1, a_asB_2, a_asB_3, a_lst_0, a_lst_1, a_and, a_or, a_andK_0, a_andK_1, a_andK_2, a_andK_3, a_andK_4, a_andK_5, a_dIf, a_tand, a_tor, a_tnot, a_ifK_0, a_ifK_1, a_ifK_2, a_ifK_3, a_ifK_4, a_cons, a_consK_0, a_consK_1, a_consK_2, a_consK_3, a_consK_4, a_refA, a_refK_0, a_refK_1, a_refK_2, a_cb, a_tup, a_dLst, a_vals0, a_vals1, a_vals2, a_vals3, a_vals4, call_eq, callO_eq, a_call1, a_call2, a_call3, a_call4, a_rf0, a_rf1, a_rf2, a_rfK_0, a_rfK_1, a_rfK_2, a_end0_0, a_end0_1, a_end0_2, a_end0_3, a_end1, a_put1_0, a_put1_1, a_look, a_lkK_0, a_lkK_1, a_lkK_2, a_ixV, a_ixK_0, a_ixK_1, a_ixK_2, a_lenV, a_truV, a_len_0, a_len_1, a_len_2, a_len_3, a_len_4, a_it, a_rg1, a_rgL, a_en, a_zp, a_itK_0, a_itK_1, a_itK_2, a_itE_0, a_itE_1, a_comp, a_compK_0, a_compK_1, a_isi, a_isO, a_gI_0, a_gI_1, a_gI_2, List.getElem?_cons_zero, List.getElem?_cons_succ, List.set_cons_zero, List.set_cons_succ, Option.bind_some, Option.map_some, f_nil, f_cons, f_some, f_nx, f_ct, f_bk, f_rt, f_ex, a_putV, a_pv0, a_pv1, a_put, a_sp0, a_sp1, a_sp2, a_sp3, a_sp4, a_app, a_sa1, a_sa2, a_aug, a_au1, a_au2, a_au3, gEq_int, gNe_int, ct_rf, ct_own, if_true, if_false, Bool.false_eq_true, a_try, a_tryK_0, a_tryK_1, a_tryK_2, a_tryH_0, a_tryH_1, a_tryK2_0, a_tryK2_1, a_hdS_0, a_hdS_1, a_compX, a_compKX_0, a_fld, a_meth, a_prop, a_propK, a_propE, a_make, a_makeK, a_makeE, a_putF, a_pfK, a_lkv, a_lkvK, a_dct1, a_dct1K, a_dct1K2, a_dct2, a_key, a_putK, a_pk0, a_pk1, a_pk2, a_rg2, a_rg2K, a_rg2K2, a_oL, a_raiseF, a_xr1, a_xr2, a_rgDn, a_xf, a_sortK, a_listK, a_lsK, a_tix, a_tixK, a_isX, a_isxK, a_binV, a_get2, a_g2K, a_ixk, a_ixkK, a_ixkE, a_sl, a_slK0, a_slK1, a_slH, a_slL, a_slE, a_slLst, a_slTup, a_cw, a_tupV, a_tpK, a_cwb, a_ch, a_chK, a_ch1, a_ch2, a_ch2', a_ch3, r, cut4, unp3T, s, Bool.not_false]
    rfl
  | ln q hl =>
    rename_i ds
    have s := seq_ev q ds
    have l := len_sq q ds
    have b : ((ds.length : Int) == (e.many : Int)) = false := by rw [beq_eq_false_iff_ne]; omega
    simp -implicitDefEqProofs only [F_rewriting_pair, a_seq, a_expr, a_ret, a_retO, a_set, a_setO, a_if, a_unp, a_for, a_nil, a_retN, a_then_0, a_then_1, a_then_2, a_then_3, a_sK_0, a_sK_1, a_ifS_0, a_ifS_1, a_ifS_2, a_k_0, a_k_1, a_k_2, a_k_3, a_k_4, a_k_5, a_k_6, a_setV, a_setOd, a_setVK_0, a_setVK_1, a_setVK_2, a_setVK_3, a_setVK_4, a_setVK_5, a_c, a_var, a_varK_0, a_varK_1, a_bin, a_binK_0, a_binK_1, a_binK_2, a_binK_3, a_oE_0, a_oE_1, a_un, a_unK_0, a_unK_1, a_unK_2, a_unK_3, a_test, a_tru, a_not, a_asB_0, a_asB_1, a_asB_2, a_asB_3, a_lst_0, a_lst_1, a_and, a_or, a_andK_0, a_andK_1, a_andK_2, a_andK_3, a_andK_4, a_andK_5, a_dIf, a_tand, a_tor, a_tnot, a_ifK_0, a_ifK_1, a_ifK_2, a_ifK_3, a_ifK_4, a_cons, a_consK_0, a_consK_1, a_consK_2, a_consK_3, a_consK_4, a_refA, a_refK_0, a_refK_1, a_refK_2, a_cb, a_tup, a_dLst, a_vals0, a_vals1, a_vals2, a_vals3, a_vals4, call_eq, callO_eq, a_call1, a_call2, a_call3, a_call4, a_rf0, a_rf1, a_rf2, a_rfK_0, a_rfK_1, a_rfK_2, a_end0_0, a_end0_1, a_end0_2, a_end0_3, a_end1, a_put1_0, a_put1_1, a_look, a_lkK_0, a_lkK_1, a_lkK_2, a_ixV, a_ixK_0, a_ixK_1, a_ixK_2, a_lenV, a_truV, a_len_0, a_len_1, a_len_2, a_len_3, a_len_4, a_it, a_rg1, a_rgL, a_en, a_zp, a_itK_0, a_itK_1, a_itK_2, a_itE_0, a_itE_1, a_comp, a_compK_0, a_compK_1, a_isi, a_isO, a_gI_0, a_gI_1, a_gI_2, List.getElem?_cons_zero, List.getElem?_cons_succ, List.set_cons_zero, List.set_cons_succ, Option.bind_some, Option.map_some, f_nil, f_cons, f_some, f_nx, f_ct, f_bk, f_rt, f_ex, a_putV, a_pv0, a_pv1, a_put, a_sp0, a_sp1, a_sp2, a_sp3, a_sp4, a_app, a_sa1, a_sa2, a_aug, a_au1, a_au2, a_au3, gEq_int, gNe_int, ct_rf, ct_own, if_true, if_false, Bool.false_eq_true, a_try, a_tryK_0, a_tryK_1, a_tryK_2, a_tryH_0, a_tryH_1, a_tryK2_0, a_tryK2_1, a_hdS_0, a_hdS_1, a_compX, a_compKX_0, a_fld, a_meth, a_prop, a_propK, a_propE, a_make, a_makeK, a_makeE, a_putF, a_pfK, a_lkv, a_lkvK, a_dct1, a_dct1K, a_dct1K2, a_dct2, a_key, a_putK, a_pk0, a_pk1, a_pk2, a_rg2, a_rg2K, a_rg2K2, a_oL, a_raiseF, a_xr1, a_xr2, a_rgDn, a_xf, a_sortK, a_listK, a_lsK, a_tix, a_tixK, a_isX, a_isxK, a_binV, a_get2, a_g2K, a_ixk, a_ixkK, a_ixkE, a_sl, a_slK0, a_slK1, a_slH, a_slL, a_slE, a_slLst, a_slTup, a_cw, a_tupV, a_tpK, a_cwb, a_ch, a_chK, a_ch1, a_ch2, a_ch2', a_ch3, r, cut4, unp3T, s, Bool.not_true, l, b, Bool.not_false]
    rfl
theorem tb_rr : tabE "BadRewriting" "BadRewriting" = some true := by decide +kernel
theorem body_word {w x y : D} {b0 b1 : Bool} (h0 : gEq false w (.int 0) = some (.bl b0)) (h1 : gEq false w (.int 1) = some (.bl b1)) {z : Str}
    (h : (b0 = true ∧ fn_verdict_of [x] = .ex "BadRewriting" ["what"] [.str z] []) ∨ (b0 = false ∧ b1 = true ∧ fn_letters_of [x] = .ex "BadRewriting" ["what"] [.str z] []) ∨ (b0 = false ∧ b1 = false ∧ fn_rewriting_pair [x, y] = .ex "BadRewriting" ["what"] [.str z] [])) : fn__law_word [w, x, y] = .ret (.str z) [] := by
  rw [o__law_word]
  unfold F__law_word
  rcases h with ⟨rfl, h⟩ | ⟨rfl, rfl, h⟩ | ⟨rfl, rfl, h⟩
  · simp -implicitDefEqProofs only [a_seq, a_expr, a_ret, a_retO, a_set, a_setO, a_if, a_unp, a_for, a_nil, a_retN, a_then_0, a_then_1, a_then_2, a_then_3, a_sK_0, a_sK_1, a_ifS_0, a_ifS_1, a_ifS_2, a_k_0, a_k_1, a_k_2, a_k_3, a_k_4, a_k_5, a_k_6, a_setV, a_setOd, a_setVK_0, a_setVK_1, a_setVK_2, a_setVK_3, a_setVK_4, a_setVK_5, a_c, a_var, a_varK_0, a_varK_1, a_bin, a_binK_0, a_binK_1, a_binK_2, a_binK_3, a_oE_0, a_oE_1, a_un, a_unK_0, a_unK_1, a_unK_2, a_unK_3, a_test, a_tru, a_not, a_asB_0, a_asB_1, a_asB_2, a_asB_3, a_lst_0, a_lst_1, a_and, a_or, a_andK_0, a_andK_1, a_andK_2, a_andK_3, a_andK_4, a_andK_5, a_dIf, a_tand, a_tor, a_tnot, a_ifK_0, a_ifK_1, a_ifK_2, a_ifK_3, a_ifK_4, a_cons, a_consK_0, a_consK_1, a_consK_2, a_consK_3, a_consK_4, a_refA, a_refK_0, a_refK_1, a_refK_2, a_cb, a_tup, a_dLst, a_vals0, a_vals1, a_vals2, a_vals3, a_vals4, call_eq, callO_eq, a_call1, a_call2, a_call3, a_call4, a_rf0, a_rf1, a_rf2, a_rfK_0, a_rfK_1, a_rfK_2, a_end0_0, a_end0_1, a_end0_2, a_end0_3, a_end1, a_put1_0, a_put1_1, a_look, a_lkK_0, a_lkK_1, a_lkK_2, a_ixV, a_ixK_0, a_ixK_1, a_ixK_2, a_lenV, a_truV, a_len_0, a_len_1, a_len_2, a_len_3, a_len_4, a_it, a_rg1, a_rgL, a_en, a_zp, a_itK_0, a_itK_1, a_itK_2, a_itE_0, a_itE_1, a_comp, a_compK_0, a_compK_1, a_isi, a_isO, a_gI_0, a_gI_1, a_gI_2, List.getElem?_cons_zero, List.getElem?_cons_succ, List.set_cons_zero, List.set_cons_succ, Option.bind_some, Option.map_some, f_nil, f_cons, f_some, f_nx, f_ct, f_bk, f_rt, f_ex, a_putV, a_pv0, a_pv1, a_put, a_sp0, a_sp1, a_sp2, a_sp3, a_sp4, a_app, a_sa1, a_sa2, a_aug, a_au1, a_au2, a_au3, gEq_int, gNe_int, ct_rf, ct_own, if_true, if_false, Bool.false_eq_true, a_try, a_tryK_0, a_tryK_1, a_tryK_2, a_tryH_0, a_tryH_1, a_tryK2_0, a_tryK2_1, a_hdS_0, a_hdS_1, a_compX, a_compKX_0, a_fld, a_meth, a_prop, a_propK, a_propE, a_make, a_makeK, a_makeE, a_putF, a_pfK, a_lkv, a_lkvK, a_dct1, a_dct1K, a_dct1K2, a_dct2, a_key, a_putK, a_pk0, a_pk1, a_pk2, a_rg2, a_rg2K, a_rg2K2, a_oL, a_raiseF, a_xr1, a_xr2, a_rgDn, a_xf, a_sortK, a_listK, a_lsK, a_tix, a_tixK, a_isX, a_isxK, a_binV, a_get2, a_g2K, a_ixk, a_ixkK, a_ixkE, a_sl, a_slK0, a_slK1, a_slH, a_slL, a_slE, a_slLst, a_slTup, a_cw, a_tupV, a_tpK, a_cwb, a_ch, a_chK, a_ch1, a_ch2, a_ch2', a_ch3, a_tryCl, a_tryClK_2, a_clH_1, tb_rr, a_clK_1, h0, h]
    rfl
  · simp -implicitDefEqProofs only [a_seq, a_expr, a_ret, a_retO, a_set, a_setO, a_if, a_unp, a_for, a_nil, a_retN, a_then_0, a_then_1, a_then_2, a_then_3, a_sK_0, a_sK_1, a_ifS_0, a_ifS_1, a_ifS_2, a_k_0, a_k_1, a_k_2, a_k_3, a_k_4, a_k_5, a_k_6, a_setV, a_setOd, a_setVK_0, a_setVK_1, a_setVK_2, a_setVK_3, a_setVK_4, a_setVK_5, a_c, a_var, a_varK_0, a_varK_1, a_bin, a_binK_0, a_binK_1, a_binK_2, a_binK_3, a_oE_0, a_oE_1, a_un, a_unK_0, a_unK_1, a_unK_2, a_unK_3, a_test, a_tru, a_not, a_asB_0, a_asB_1, a_asB_2, a_asB_3, a_lst_0, a_lst_1, a_and, a_or, a_andK_0, a_andK_1, a_andK_2, a_andK_3, a_andK_4, a_andK_5, a_dIf, a_tand, a_tor, a_tnot, a_ifK_0, a_ifK_1, a_ifK_2, a_ifK_3, a_ifK_4, a_cons, a_consK_0, a_consK_1, a_consK_2, a_consK_3, a_consK_4, a_refA, a_refK_0, a_refK_1, a_refK_2, a_cb, a_tup, a_dLst, a_vals0, a_vals1, a_vals2, a_vals3, a_vals4, call_eq, callO_eq, a_call1, a_call2, a_call3, a_call4, a_rf0, a_rf1, a_rf2, a_rfK_0, a_rfK_1, a_rfK_2, a_end0_0, a_end0_1, a_end0_2, a_end0_3, a_end1, a_put1_0, a_put1_1, a_look, a_lkK_0, a_lkK_1, a_lkK_2, a_ixV, a_ixK_0, a_ixK_1, a_ixK_2, a_lenV, a_truV, a_len_0, a_len_1, a_len_2, a_len_3, a_len_4, a_it, a_rg1, a_rgL, a_en, a_zp, a_itK_0, a_itK_1, a_itK_2, a_itE_0, a_itE_1, a_comp, a_compK_0, a_compK_1, a_isi, a_isO, a_gI_0, a_gI_1, a_gI_2, List.getElem?_cons_zero, List.getElem?_cons_succ, List.set_cons_zero, List.set_cons_succ, Option.bind_some, Option.map_some, f_nil, f_cons, f_some, f_nx, f_ct, f_bk, f_rt, f_ex, a_putV, a_pv0, a_pv1, a_put, a_sp0, a_sp1, a_sp2, a_sp3, a_sp4, a_app, a_sa1, a_sa2, a_aug, a_au1, a_au2, a_au3, gEq_int, gNe_int, ct_rf, ct_own, if_true, if_false, Bool.false_eq_true, a_try, a_tryK_0, a_tryK_1, a_tryK_2, a_tryH_0, a_tryH_1, a_tryK2_0, a_tryK2_1, a_hdS_0, a_hdS_1, a_compX, a_compKX_0, a_fld, a_meth, a_prop, a_propK, a_propE, a_make, a_makeK, a_makeE, a_putF, a_pfK, a_lkv, a_lkvK, a_dct1, a_dct1K, a_dct1K2, a_dct2, a_key, a_putK, a_pk0, a_pk1, a_pk2, a_rg2, a_rg2K, a_rg2K2, a_oL, a_raiseF, a_xr1, a_xr2, a_rgDn, a_xf, a_sortK, a_listK, a_lsK, a_tix, a_tixK, a_isX, a_isxK, a_binV, a_get2, a_g2K, a_ixk, a_ixkK, a_ixkE, a_sl, a_slK0, a_slK1, a_slH, a_slL, a_slE, a_slLst, a_slTup, a_cw, a_tupV, a_tpK, a_cwb, a_ch, a_chK, a_ch1, a_ch2, a_ch2', a_ch3, a_tryCl, a_tryClK_2, a_clH_1, tb_rr, a_clK_1, h0, h1, h]
    rfl
  · simp -implicitDefEqProofs only [a_seq, a_expr, a_ret, a_retO, a_set, a_setO, a_if, a_unp, a_for, a_nil, a_retN, a_then_0, a_then_1, a_then_2, a_then_3, a_sK_0, a_sK_1, a_ifS_0, a_ifS_1, a_ifS_2, a_k_0, a_k_1, a_k_2, a_k_3, a_k_4, a_k_5, a_k_6, a_setV, a_setOd, a_setVK_0, a_setVK_1, a_setVK_2, a_setVK_3, a_setVK_4, a_setVK_5, a_c, a_var, a_varK_0, a_varK_1, a_bin, a_binK_0, a_binK_1, a_binK_2, a_binK_3, a_oE_0, a_oE_1, a_un, a_unK_0, a_unK_1, a_unK_2, a_unK_3, a_test, a_tru, a_not, a_asB_0, a_asB_1, a_asB_2, a_asB_3, a_lst_0, a_lst_1, a_and, a_or, a_andK_0, a_andK_1, a_andK_2, a_andK_3, a_andK_4, a_andK_5, a_dIf, a_tand, a_tor, a_tnot, a_ifK_0, a_ifK_1, a_ifK_2, a_ifK_3, a_ifK_4, a_cons, a_consK_0, a_consK_1, a_consK_2, a_consK_3, a_consK_4, a_refA, a_refK_0, a_refK_1, a_refK_2, a_cb, a_tup, a_dLst, a_vals0, a_vals1, a_vals2, a_vals3, a_vals4, call_eq, callO_eq, a_call1, a_call2, a_call3, a_call4, a_rf0, a_rf1, a_rf2, a_rfK_0, a_rfK_1, a_rfK_2, a_end0_0, a_end0_1, a_end0_2, a_end0_3, a_end1, a_put1_0, a_put1_1, a_look, a_lkK_0, a_lkK_1, a_lkK_2, a_ixV, a_ixK_0, a_ixK_1, a_ixK_2, a_lenV, a_truV, a_len_0, a_len_1, a_len_2, a_len_3, a_len_4, a_it, a_rg1, a_rgL, a_en, a_zp, a_itK_0, a_itK_1, a_itK_2, a_itE_0, a_itE_1, a_comp, a_compK_0, a_compK_1, a_isi, a_isO, a_gI_0, a_gI_1, a_gI_2, List.getElem?_cons_zero, List.getElem?_cons_succ, List.set_cons_zero, List.set_cons_succ, Option.bind_some, Option.map_some, f_nil, f_cons, f_some, f_nx, f_ct, f_bk, f_rt, f_ex, a_putV, a_pv0, a_pv1, a_put, a_sp0, a_sp1, a_sp2, a_sp3, a_sp4, a_app, a_sa1, a_sa2, a_aug, a_au1, a_au2, a_au3, gEq_int, gNe_int, ct_rf, ct_own, if_true, if_false, Bool.false_eq_true, a_try, a_tryK_0, a_tryK_1, a_tryK_2, a_tryH_0, a_tryH_1, a_tryK2_0, a_tryK2_1, a_hdS_0, a_hdS_1, a_compX, a_compKX_0, a_fld, a_meth, a_prop, a_propK, a_propE, a_make, a_makeK, a_makeE, a_putF, a_pfK, a_lkv, a_lkvK, a_dct1, a_dct1K, a_dct1K2, a_dct2, a_key, a_putK, a_pk0, a_pk1, a_pk2, a_rg2, a_rg2K, a_rg2K2, a_oL, a_raiseF, a_xr1, a_xr2, a_rgDn, a_xf, a_sortK, a_listK, a_lsK, a_tix, a_tixK, a_isX, a_isxK, a_binV, a_get2, a_g2K, a_ixk, a_ixkK, a_ixkE, a_sl, a_slK0, a_slK1, a_slH, a_slL, a_slE, a_slLst, a_slTup, a_cw, a_tupV, a_tpK, a_cwb, a_ch, a_chK, a_ch1, a_ch2, a_ch2', a_ch3, a_tryCl, a_tryClK_2, a_clH_1, tb_rr, a_clK_1, h0, h1, h]
    rfl
theorem word_odd {x : D} (y : D) (h : fn__is_rewriting [x] = .ret (.bl false) []) {w : Nat} (hw : w < 3) : fn__law_word [.int (w : Int), x, y] = .ret (.str "name") [] := by
  have : w = 0 ∨ w = 1 ∨ w = 2 := by omega
  rcases this with rfl | rfl | rfl
  · exact body_word (b0 := true) (b1 := false) rfl rfl (.inl ⟨rfl, verdict_odd h⟩)
  · exact body_word (b0 := false) (b1 := true) rfl rfl (.inr (.inl ⟨rfl, rfl, letters_odd h⟩))
  · exact body_word (b0 := false) (b1 := false) rfl rfl (.inr (.inr ⟨rfl, rfl, pair_odd y h⟩))
theorem word_many {e : En} (h : e ∈ ents) {x : D} (hx : Many e.many x) : fn__law_word [.int 2, .str e.nm, x] = .ret (.str "many") [] := body_word (b0 := false) (b1 := false) rfl rfl (.inr (.inr ⟨rfl, rfl, pair_many h hx⟩))
theorem word_let (q : Bool) {e : En} (h : e ∈ ents) {ps : List Pg} (hp : ps.length = e.many) : fn__law_word [.int 2, .str e.nm, sq q (pgs ps)] = .ret (.str "let") [] := by
  have p := pair_ev q h hp
  have h0 : ((2 : Int) == 0) = false := rfl
  have h1 : ((2 : Int) == 1) = false := rfl
  rw [o__law_word]
  simp -implicitDefEqProofs only [F__law_word, a_seq, a_expr, a_ret, a_retO, a_set, a_setO, a_if, a_unp, a_for, a_nil, a_retN, a_then_0, a_then_1, a_then_2, a_then_3, a_sK_0, a_sK_1, a_ifS_0, a_ifS_1, a_ifS_2, a_k_0, a_k_1, a_k_2, a_k_3, a_k_4, a_k_5, a_k_6, a_setV, a_setOd, a_setVK_0, a_setVK_1, a_setVK_2, a_setVK_3, a_setVK_4, a_setVK_5, a_c, a_var, a_varK_0, a_varK_1, a_bin, a_binK_0, a_binK_1, a_binK_2, a_binK_3, a_oE_0, a_oE_1, a_un, a_unK_0, a_unK_1, a_unK_2, a_unK_3, a_test, a_tru, a_not, a_asB_0, a_asB_1, a_asB_2, a_asB_3, a_lst_0, a_lst_1, a_and, a_or, a_andK_0, a_andK_1, a_andK_2, a_andK_3, a_andK_4, a_andK_5, a_dIf, a_tand, a_tor, a_tnot, a_ifK_0, a_ifK_1, a_ifK_2, a_ifK_3, a_ifK_4, a_cons, a_consK_0, a_consK_1, a_consK_2, a_consK_3, a_consK_4, a_refA, a_refK_0, a_refK_1, a_refK_2, a_cb, a_tup, a_dLst, a_vals0, a_vals1, a_vals2, a_vals3, a_vals4, call_eq, callO_eq, a_call1, a_call2, a_call3, a_call4, a_rf0, a_rf1, a_rf2, a_rfK_0, a_rfK_1, a_rfK_2, a_end0_0, a_end0_1, a_end0_2, a_end0_3, a_end1, a_put1_0, a_put1_1, a_look, a_lkK_0, a_lkK_1, a_lkK_2, a_ixV, a_ixK_0, a_ixK_1, a_ixK_2, a_lenV, a_truV, a_len_0, a_len_1, a_len_2, a_len_3, a_len_4, a_it, a_rg1, a_rgL, a_en, a_zp, a_itK_0, a_itK_1, a_itK_2, a_itE_0, a_itE_1, a_comp, a_compK_0, a_compK_1, a_isi, a_isO, a_gI_0, a_gI_1, a_gI_2, List.getElem?_cons_zero, List.getElem?_cons_succ, List.set_cons_zero, List.set_cons_succ, Option.bind_some, Option.map_some, f_nil, f_cons, f_some, f_nx, f_ct, f_bk, f_rt, f_ex, a_putV, a_pv0, a_pv1, a_put, a_sp0, a_sp1, a_sp2, a_sp3, a_sp4, a_app, a_sa1, a_sa2, a_aug, a_au1, a_au2, a_au3, gEq_int, gNe_int, ct_rf, ct_own, if_true, if_false, Bool.false_eq_true, a_try, a_tryK_0, a_tryK_1, a_tryK_2, a_tryH_0, a_tryH_1, a_tryK2_0, a_tryK2_1, a_hdS_0, a_hdS_1, a_compX, a_compKX_0, a_fld, a_meth, a_prop, a_propK, a_propE, a_make, a_makeK, a_makeE, a_putF, a_pfK, a_lkv, a_lkvK, a_dct1, a_dct1K, a_dct1K2, a_dct2, a_key, a_putK, a_pk0, a_pk1, a_pk2, a_rg2, a_rg2K, a_rg2K2, a_oL, a_raiseF, a_xr1, a_xr2, a_rgDn, a_xf, a_sortK, a_listK, a_lsK, a_tix, a_tixK, a_isX, a_isxK, a_binV, a_get2, a_g2K, a_ixk, a_ixkK, a_ixkE, a_sl, a_slK0, a_slK1, a_slH, a_slL, a_slE, a_slLst, a_slTup, a_cw, a_tupV, a_tpK, a_cwb, a_ch, a_chK, a_ch1, a_ch2, a_ch2', a_ch3, a_tryCl, a_tryClK_0, h0, h1, p]
  rfl
/-! ### words and tuples told exactly -/
def PlS : Nat → D → Prop
  | _, .int _ => True
  | _, .str x => PyData.strOk x = true
  | n + 1, .tup ds => ds.length ≤ 4096 ∧ ∀ d ∈ ds, PlS n d
  | _, _ => False
theorem exS (n : Nat) : ∀ (d : D), PlS n d → fn__law_exact (n + 1) [d, d] = .ret (.bl true) [] := by
  induction n with
  | zero =>
    intro d h
    cases d with
    | int i => exact exact_int 0 i
    | str x => exact exact_str 0 x (xs_ok x h)
    | _ => exact h.elim
  | succ n ih =>
    intro d h
    cases d with
    | int i => exact exact_int (n + 1) i
    | str x => exact exact_str (n + 1) x (xs_ok x h)
    | tup ds => exact exact_tup n ds h.1 fun d hd => ih d (h.2 d hd)
    | _ => exact h.elim
theorem plS_mono : ∀ {n m : Nat} {d : D}, n ≤ m → PlS n d → PlS m d := by
  intro n
  induction n with
  | zero =>
    intro m d _ h
    cases d with
    | int i => cases m <;> trivial
    | str x => cases m <;> exact h
    | _ => exact h.elim
  | succ n ih =>
    intro m d hm h
    cases d with
    | int i => cases m <;> trivial
    | str x => cases m <;> exact h
    | tup ds =>
      cases m with
      | zero => omega
      | succ m => exact ⟨h.1, fun d hd => ih (by omega) (h.2 d hd)⟩
    | _ => exact h.elim
theorem plS_str (n : Nat) {x : Str} (h : PyData.strOk x = true) : PlS n (.str x) := by cases n <;> exact h
theorem plS_pg {xs : List Str} (hx : ∀ x ∈ xs, PyData.strOk x = true) : ∀ p : Pg, p.In xs → PlS p.dp (pgD p)
  | .no, _ => ⟨by show 1 ≤ 4096; decide, fun d hd => by rw [List.mem_singleton.mp hd]; exact plS_str 0 (by decide +kernel)⟩
  | .st s, h => ⟨by show 2 ≤ 4096; decide, fun d hd => by
      rcases List.mem_cons.mp hd with rfl | hd
      · exact plS_str 0 (by decide +kernel)
      · rw [List.mem_singleton.mp hd]; exact plS_str 0 (hx s h)⟩
  | .be a b, h => ⟨by show 3 ≤ 4096; decide, fun d hd => by
      rcases List.mem_cons.mp hd with rfl | hd
      · exact plS_str _ (by decide +kernel)
      rcases List.mem_cons.mp hd with rfl | hd
      · exact plS_mono (Nat.le_max_left _ _) (plS_pg hx a h.1)
      · rw [List.mem_singleton.mp hd]; exact plS_mono (Nat.le_max_right _ _) (plS_pg hx b h.2)⟩
  | .ei a b, h => ⟨by show 3 ≤ 4096; decide, fun d hd => by
      rcases List.mem_cons.mp hd with rfl | hd
      · exact plS_str _ (by decide +kernel)
      rcases List.mem_cons.mp hd with rfl | hd
      · exact plS_mono (Nat.le_max_left _ _) (plS_pg hx a h.1)
      · rw [List.mem_singleton.mp hd]; exact plS_mono (Nat.le_max_right _ _) (plS_pg hx b h.2)⟩
  | .ag a, h => ⟨by show 2 ≤ 4096; decide, fun d hd => by
      rcases List.mem_cons.mp hd with rfl | hd
      · exact plS_str _ (by decide +kernel)
      · rw [List.mem_singleton.mp hd]; exact plS_pg hx a h⟩
theorem fil_in {xs : List Str} {ps : List Pg} (h : ∀ p ∈ ps, p.In xs) : ∀ s : Sh, (fil ps s).In xs
  | .le i => by
    show (ps.getD i .no).In xs
    rw [List.getD_eq_getElem?_getD]
    cases q : ps[i]? with
    | none => trivial
    | some p => exact h p (List.mem_of_getElem? q)
  | .no => trivial
  | .be a b => ⟨fil_in h a, fil_in h b⟩
  | .ei a b => ⟨fil_in h a, fil_in h b⟩
  | .ag a => fil_in h a
theorem fil_dp {ps : List Pg} {m : Nat} (hm : 1 ≤ m) (h : ∀ p ∈ ps, p.dp ≤ m) : ∀ s : Sh, (fil ps s).dp ≤ m + s.dp
  | .le i => by
    show (ps.getD i .no).dp ≤ m + 1
    rw [List.getD_eq_getElem?_getD]
    cases q : ps[i]? with
    | none => show 1 ≤ m + 1; omega
    | some p => have := h p (List.mem_of_getElem? q); show p.dp ≤ m + 1; omega
  | .no => by show 1 ≤ m + 1; omega
  | .be a b => by have := fil_dp hm h a; have := fil_dp hm h b; show max _ _ + 1 ≤ m + (max a.dp b.dp + 1); omega
  | .ei a b => by have := fil_dp hm h a; have := fil_dp hm h b; show max _ _ + 1 ≤ m + (max a.dp b.dp + 1); omega
  | .ag a => by have := fil_dp hm h a; show _ + 1 ≤ m + (a.dp + 1); omega
theorem pool10_ok : ∀ x ∈ pool10, PyData.strOk x = true := by decide +kernel
/-! ### the letters -/
structure Lts (xs : List Str) (n : Nat) (ps : List Pg) : Prop where
  ln : ps.length = n
  dp : ∀ p ∈ ps, p.dp ≤ 7
  nm : ∀ p ∈ ps, p.In xs
theorem ixNn {n k : Nat} (h : k < n) : L2.ixN n ((k : Nat) : Int) = some k := by
  unfold L2.ixN
  rw [if_pos (by omega), if_pos (by omega), Int.toNat_natCast]
theorem lts_loop (xs : List Str) (h0 : 0 < xs.length) (h64 : xs.length ≤ 64) (m : Nat) : ∀ (n i : Nat) (d : D) (ps : List Pg) (s6 : Sl), Hand d → ps.length + n ≤ 10 → (∀ p ∈ ps, p.dp ≤ 7) → (∀ p ∈ ps, p.In xs) → Pv s6 → ∃ d' ps' s6', Hand d' ∧ ps'.length = ps.length + n ∧ (∀ p ∈ ps', p.dp ≤ 7) ∧ (∀ p ∈ ps', p.In xs) ∧ Pv s6' ∧
    forL (setV 6) B__law_letters_0 (rgF i n) [.rf d, .val (.lst (txD xs)), .val (.int (m : Int)), .val (.int 4), .val (.int 3), .own (.lst (pgs ps)), s6] = .nx [.rf d', .val (.lst (txD xs)), .val (.int (m : Int)), .val (.int 4), .val (.int 3), .own (.lst (pgs ps')), s6']
  | 0, i, d, ps, s6, hd, _, h1, h2, h6 => ⟨d, ps, s6, hd, rfl, h1, h2, h6, rfl⟩
  | n + 1, i, d, ps, s6, hd, hl, h1, h2, h6 => by
    obtain ⟨a, d1, e1, hd1, ha⟩ := take_nat d 4 hd (by decide) (by decide)
    have e1 : fn__law_take [d, .int 4] = .ret (.int (a : Int)) [d1] := e1
    obtain ⟨b, d2, e2, hd2, hb⟩ := take_nat d1 4 hd1 (by decide) (by decide)
    have e2 : fn__law_take [d1, .int 4] = .ret (.int (b : Int)) [d2] := e2
    have g1 : ∀ n : Nat, gAdd (.int 1) (.int (n : Int)) = some (.int ((1 + n : Nat) : Int)) := fun n => addn 1 n
    have g3 : gAdd (.int 3) (.int 1) = some (.int 4) := rfl
    obtain ⟨p, d3, e3, hd3, p1, p2, p3, p4⟩ := program_ev xs h0 h64 8 (1 + a) b d2 hd2 (by omega) (by omega) (by omega) (by omega)
    have lz : (pgs ps).length < sizeLine := by rw [pgs_len, sizeLine_eq]; omega
    have ra : pgs ps ++ [pgD p] = pgs (ps ++ [p]) := by unfold pgs; rw [List.map_append]; rfl
    have sa : ∀ δ x, saK3 5 x δ (some (.lst (pgs ps))) = oNx (putV 5 (.lst (pgs ps ++ [x])) δ) := fun δ x => a_sa3 _ _ _ _ lz
    have m1 : ∀ q ∈ ps ++ [p], q.dp ≤ 7 := fun q hq => by
      rcases List.mem_append.mp hq with h | h
      · exact h1 q h
      · rw [List.mem_singleton.mp h]; omega
    have m2 : ∀ q ∈ ps ++ [p], q.In xs := fun q hq => by
      rcases List.mem_append.mp hq with h | h
      · exact h2 q h
      · rw [List.mem_singleton.mp h]; exact p4
    obtain ⟨d', ps', s6', q1, q2, q3, q4, q5, e⟩ := lts_loop xs h0 h64 m n (i + 1) d3 (ps ++ [p]) (.val (.int (i : Int))) hd3 (by rw [List.length_append]; show ps.length + 1 + n ≤ 10; omega) m1 m2 (.inr ⟨_, rfl⟩)
    refine ⟨d', ps', s6', q1, by rw [q2, List.length_append]; show ps.length + 1 + n = _; omega, q3, q4, q5, ?_⟩
    show forL _ _ (.int (i : Int) :: rgF (i + 1) n) _ = _
    rw [← e]
    simp -implicitDefEqProofs only [a_seq, a_expr, a_ret, a_retO, a_set, a_setO, a_if, a_unp, a_for, a_nil, a_retN, a_then_0, a_then_1, a_then_2, a_then_3, a_sK_0, a_sK_1, a_ifS_0, a_ifS_1, a_ifS_2, a_k_0, a_k_1, a_k_2, a_k_3, a_k_4, a_k_5, a_k_6, a_setV, a_setOd, a_setVK_0, a_setVK_1, a_setVK_2, a_setVK_3, a_setVK_4, a_setVK_5, a_c, a_var, a_varK_0, a_varK_1, a_bin, a_binK_0, a_binK_1, a_binK_2, a_binK_3, a_oE_0, a_oE_1, a_un, a_unK_0, a_unK_1, a_unK_2, a_unK_3, a_test, a_tru, a_not, a_asB_0, a_asB_1, a_asB_2, a_asB_3, a_lst_0, a_lst_1, a_and, a_or, a_andK_0, a_andK_1, a_andK_2, a_andK_3, a_andK_4, a_andK_5, a_dIf, a_tand, a_tor, a_tnot, a_ifK_0, a_ifK_1, a_ifK_2, a_ifK_3, a_ifK_4, a_cons, a_consK_0, a_consK_1, a_consK_2, a_consK_3, a_consK_4, a_refA, a_refK_0, a_refK_1, a_refK_2, a_cb, a_tup, a_dLst, a_vals0, a_vals1, a_vals2, a_vals3, a_vals4, call_eq, callO_eq, a_call1, a_call2, a_call3, a_call4, a_rf0, a_rf1, a_rf2, a_rfK_0, a_rfK_1, a_rfK_2, a_end0_0, a_end0_1, a_end0_2, a_end0_3, a_end1, a_put1_0, a_put1_1, a_look, a_lkK_0, a_lkK_1, a_lkK_2, a_ixV, a_ixK_0, a_ixK_1, a_ixK_2, a_lenV, a_truV, a_len_0, a_len_1, a_len_2, a_len_3, a_len_4, a_it, a_rg1, a_rgL, a_en, a_zp, a_itK_0, a_itK_1, a_itK_2, a_itE_0, a_itE_1, a_comp, a_compK_0, a_compK_1, a_isi, a_isO, a_gI_0, a_gI_1, a_gI_2, List.getElem?_cons_zero, List.getElem?_cons_succ, List.set_cons_zero, List.set_cons_succ, Option.bind_some, Option.map_some, f_nil, f_cons, f_some, f_nx, f_ct, f_bk, f_rt, f_ex, a_putV, a_pv0, a_pv1, a_put, a_sp0, a_sp1, a_sp2, a_sp3, a_sp4, a_app, a_sa1, a_sa2, a_aug, a_au1, a_au2, a_au3, gEq_int, gNe_int, ct_rf, ct_own, if_true, if_false, Bool.false_eq_true, a_try, a_tryK_0, a_tryK_1, a_tryK_2, a_tryH_0, a_tryH_1, a_tryK2_0, a_tryK2_1, a_hdS_0, a_hdS_1, a_compX, a_compKX_0, a_fld, a_meth, a_prop, a_propK, a_propE, a_make, a_makeK, a_makeE, a_putF, a_pfK, a_lkv, a_lkvK, a_dct1, a_dct1K, a_dct1K2, a_dct2, a_key, a_putK, a_pk0, a_pk1, a_pk2, a_rg2, a_rg2K, a_rg2K2, a_oL, a_raiseF, a_xr1, a_xr2, a_rgDn, a_xf, a_sortK, a_listK, a_lsK, a_tix, a_tixK, a_isX, a_isxK, a_binV, a_get2, a_g2K, a_ixk, a_ixkK, a_ixkE, a_sl, a_slK0, a_slK1, a_slH, a_slL, a_slE, a_slLst, a_slTup, a_cw, a_tupV, a_tpK, a_cwb, a_ch, a_chK, a_ch1, a_ch2, a_ch2', a_ch3, set_nr (pv_nr h6), B__law_letters_0, e1, g1, g3, e2, call_r3, e3, sa, ra]
theorem pgs_at {ps : List Pg} {i : Nat} (h : i < ps.length) : idxD (.lst (pgs ps)) (.int (i : Int)) = some (pgD ps[i]) := ix_any false (by
  show (pgs ps)[i]? = _
  unfold pgs
  rw [List.getElem?_map, List.getElem?_eq_getElem h]; rfl)
theorem letters_draw (xs : List Str) (h0 : 0 < xs.length) (h64 : xs.length ≤ 64) {n : Nat} (n1 : 1 ≤ n) (n3 : n ≤ 3) (d : D) (hd : Hand d) : ∃ ps d', fn__law_letters [d, .lst (txD xs), .int (n : Int), .int 4, .int 3] = .ret (.lst (pgs ps)) [d'] ∧ Hand d' ∧ Lts xs n ps := by
  obtain ⟨d1, ps, s6, hd1, l1, p1, p2, h6, e⟩ := lts_loop xs h0 h64 n n 0 d [] .un hd (by show 0 + n ≤ 10; omega) (fun p hp => nomatch hp) (fun p hp => nomatch hp) (.inl rfl)
  have e : forL (setV 6) B__law_letters_0 (rgF 0 n) [.rf d, .val (.lst (txD xs)), .val (.int (n : Int)), .val (.int 4), .val (.int 3), .own (.lst []), .un] = _ := e
  have hl : ps.length = n := by rw [l1]; show 0 + n = n; omega
  have it := itF n (by omega)
  have l0 : gLstD [] = some (.lst []) := rfl
  obtain ⟨t, d2, e2, hd2, ht⟩ := take_nat d1 8 hd1 (by decide) (by decide)
  have e2 : fn__law_take [d1, .int 8] = .ret (.int (t : Int)) [d2] := e2
  have b := beq_nat t 0
  have b : ((t : Int) == 0) = decide (t = 0) := b
  by_cases q : t = 0
  · rw [decide_eq_true q] at b
    have ix : idxD (.lst (pgs ps)) (.int 0) = some (pgD (ps[0]'(by omega))) := pgs_at (show 0 < ps.length by omega)
    have sb : ((n : Int) - 1) = ((n - 1 : Nat) : Int) := by omega
    have st : (pgs ps).set (n - 1) (pgD (ps[0]'(by omega))) = pgs (ps.set (n - 1) (ps[0]'(by omega))) := by unfold pgs; rw [List.map_set]
    have ixn : L2.ixN (pgs ps).length ((n - 1 : Nat) : Int) = some (n - 1) := ixNn (by rw [pgs_len]; omega)
    refine ⟨ps.set (n - 1) (ps[0]'(by omega)), d2, ?_, hd2, by rw [List.length_set]; exact hl, fun p hp => ?_, fun p hp => ?_⟩
    · rw [o__law_letters]
      simp -implicitDefEqProofs only [F__law_letters, a_seq, a_expr, a_ret, a_retO, a_set, a_setO, a_if, a_unp, a_for, a_nil, a_retN, a_then_0, a_then_1, a_then_2, a_then_3, a_sK_0, a_sK_1, a_ifS_0, a_ifS_1, a_ifS_2, a_k_0, a_k_1, a_k_2, a_k_3, a_k_4, a_k_5, a_k_6, a_setV, a_setOd, a_setVK_0, a_setVK_1, a_setVK_2, a_setVK_3, a_setVK_4, a_setVK_5, a_c, a_var, a_varK_0, a_varK_1, a_bin, a_binK_0, a_binK_1, a_binK_2, a_binK_3, a_oE_0, a_oE_1, a_un, a_unK_0, a_unK_1, a_unK_2, a_unK_3, a_test, a_tru, a_not, a_asB_0, a_asB_1, a_asB_2, a_asB_3, a_lst_0, a_lst_1, a_and, a_or, a_andK_0, a_andK_1, a_andK_2, a_andK_3, a_andK_4, a_andK_5, a_dIf, a_tand, a_tor, a_tnot, a_ifK_0, a_ifK_1, a_ifK_2, a_ifK_3, a_ifK_4, a_cons, a_consK_0, a_consK_1, a_consK_2, a_consK_3, a_consK_4, a_refA, a_refK_0, a_refK_1, a_refK_2, a_cb, a_tup, a_dLst, a_vals0, a_vals1, a_vals2, a_vals3, a_vals4, call_eq, callO_eq, a_call1, a_call2, a_call3, a_call4, a_rf0, a_rf1, a_rf2, a_rfK_0, a_rfK_1, a_rfK_2, a_end0_0, a_end0_1, a_end0_2, a_end0_3, a_end1, a_put1_0, a_put1_1, a_look, a_lkK_0, a_lkK_1, a_lkK_2, a_ixV, a_ixK_0, a_ixK_1, a_ixK_2, a_lenV, a_truV, a_len_0, a_len_1, a_len_2, a_len_3, a_len_4, a_it, a_rg1, a_rgL, a_en, a_zp, a_itK_0, a_itK_1, a_itK_2, a_itE_0, a_itE_1, a_comp, a_compK_0, a_compK_1, a_isi, a_isO, a_gI_0, a_gI_1, a_gI_2, List.getElem?_cons_zero, List.getElem?_cons_succ, List.set_cons_zero, List.set_cons_succ, Option.bind_some, Option.map_some, f_nil, f_cons, f_some, f_nx, f_ct, f_bk, f_rt, f_ex, a_putV, a_pv0, a_pv1, a_put, a_sp0, a_sp1, a_sp2, a_sp3, a_sp4, a_app, a_sa1, a_sa2, a_aug, a_au1, a_au2, a_au3, gEq_int, gNe_int, ct_rf, ct_own, if_true, if_false, Bool.false_eq_true, a_try, a_tryK_0, a_tryK_1, a_tryK_2, a_tryH_0, a_tryH_1, a_tryK2_0, a_tryK2_1, a_hdS_0, a_hdS_1, a_compX, a_compKX_0, a_fld, a_meth, a_prop, a_propK, a_propE, a_make, a_makeK, a_makeE, a_putF, a_pfK, a_lkv, a_lkvK, a_dct1, a_dct1K, a_dct1K2, a_dct2, a_key, a_putK, a_pk0, a_pk1, a_pk2, a_rg2, a_rg2K, a_rg2K2, a_oL, a_raiseF, a_xr1, a_xr2, a_rgDn, a_xf, a_sortK, a_listK, a_lsK, a_tix, a_tixK, a_isX, a_isxK, a_binV, a_get2, a_g2K, a_ixk, a_ixkK, a_ixkE, a_sl, a_slK0, a_slK1, a_slH, a_slL, a_slE, a_slLst, a_slTup, a_cw, a_tupV, a_tpK, a_cwb, a_ch, a_chK, a_ch1, a_ch2, a_ch2', a_ch3, l0, it, e, e2, b, ix, sb, ixn, st]
      rfl
    · rcases List.mem_or_eq_of_mem_set hp with h | h
      · exact p1 p h
      · rw [h]; exact p1 _ (List.getElem_mem _)
    · rcases List.mem_or_eq_of_mem_set hp with h | h
      · exact p2 p h
      · rw [h]; exact p2 _ (List.getElem_mem _)
  · rw [decide_eq_false q] at b
    refine ⟨ps, d2, ?_, hd2, hl, p1, p2⟩
    rw [o__law_letters]
    simp -implicitDefEqProofs only [F__law_letters, a_seq, a_expr, a_ret, a_retO, a_set, a_setO, a_if, a_unp, a_for, a_nil, a_retN, a_then_0, a_then_1, a_then_2, a_then_3, a_sK_0, a_sK_1, a_ifS_0, a_ifS_1, a_ifS_2, a_k_0, a_k_1, a_k_2, a_k_3, a_k_4, a_k_5, a_k_6, a_setV, a_setOd, a_setVK_0, a_setVK_1, a_setVK_2, a_setVK_3, a_setVK_4, a_setVK_5, a_c, a_var, a_varK_0, a_varK_1, a_bin, a_binK_0, a_binK_1, a_binK_2, a_binK_3, a_oE_0, a_oE_1, a_un, a_unK_0, a_unK_1, a_unK_2, a_unK_3, a_test, a_tru, a_not, a_asB_0, a_asB_1, a_asB_2, a_asB_3, a_lst_0, a_lst_1, a_and, a_or, a_andK_0, a_andK_1, a_andK_2, a_andK_3, a_andK_4, a_andK_5, a_dIf, a_tand, a_tor, a_tnot, a_ifK_0, a_ifK_1, a_ifK_2, a_ifK_3, a_ifK_4, a_cons, a_consK_0, a_consK_1, a_consK_2, a_consK_3, a_consK_4, a_refA, a_refK_0, a_refK_1, a_refK_2, a_cb, a_tup, a_dLst, a_vals0, a_vals1, a_vals2, a_vals3, a_vals4, call_eq, callO_eq, a_call1, a_call2, a_call3, a_call4, a_rf0, a_rf1, a_rf2, a_rfK_0, a_rfK_1, a_rfK_2, a_end0_0, a_end0_1, a_end0_2, a_end0_3, a_end1, a_put1_0, a_put1_1, a_look, a_lkK_0, a_lkK_1, a_lkK_2, a_ixV, a_ixK_0, a_ixK_1, a_ixK_2, a_lenV, a_truV, a_len_0, a_len_1, a_len_2, a_len_3, a_len_4, a_it, a_rg1, a_rgL, a_en, a_zp, a_itK_0, a_itK_1, a_itK_2, a_itE_0, a_itE_1, a_comp, a_compK_0, a_compK_1, a_isi, a_isO, a_gI_0, a_gI_1, a_gI_2, List.getElem?_cons_zero, List.getElem?_cons_succ, List.set_cons_zero, List.set_cons_succ, Option.bind_some, Option.map_some, f_nil, f_cons, f_some, f_nx, f_ct, f_bk, f_rt, f_ex, a_putV, a_pv0, a_pv1, a_put, a_sp0, a_sp1, a_sp2, a_sp3, a_sp4, a_app, a_sa1, a_sa2, a_aug, a_au1, a_au2, a_au3, gEq_int, gNe_int, ct_rf, ct_own, if_true, if_false, Bool.false_eq_true, a_try, a_tryK_0, a_tryK_1, a_tryK_2, a_tryH_0, a_tryH_1, a_tryK2_0, a_tryK2_1, a_hdS_0, a_hdS_1, a_compX, a_compKX_0, a_fld, a_meth, a_prop, a_propK, a_propE, a_make, a_makeK, a_makeE, a_putF, a_pfK, a_lkv, a_lkvK, a_dct1, a_dct1K, a_dct1K2, a_dct2, a_key, a_putK, a_pk0, a_pk1, a_pk2, a_rg2, a_rg2K, a_rg2K2, a_oL, a_raiseF, a_xr1, a_xr2, a_rgDn, a_xf, a_sortK, a_listK, a_lsK, a_tix, a_tixK, a_isX, a_isxK, a_binV, a_get2, a_g2K, a_ixk, a_ixkK, a_ixkE, a_sl, a_slK0, a_slK1, a_slH, a_slL, a_slE, a_slLst, a_slTup, a_cw, a_tupV, a_tpK, a_cwb, a_ch, a_chK, a_ch1, a_ch2, a_ch2', a_ch3, l0, it, e, e2, b]
    rfl
end LW

set_option maxRecDepth 100000
set_option maxHeartbeats 8000000
namespace LW
open PySem PySem.Spec PyProof.Rows L2 DL
def Y37 : DS := (sSeq (sSet 10 (dLst (dCons (dSl (dVar 7) (some (dC (.int 1))) none) (dCons (dBin gAdd (dVar 7) (dLst (dCons (dIxV 7 (dC (.int 0))) dNil))) (dCons (dC .non) (dCons (dSl (dC (.str "rst")) none (some (dIxV 5 (dC (.int 1))))) (dCons (dIxV 5 (dC (.int 1))) (dCons (dC (.dct [] [])) (dCons (dCallB gTuple (dCons (dSl (dVar 7) none (some (dUn (gU fun i => -i) (dC (.int 1))))) dNil)) dNil))))))))) (sSeq (sSet 12 (dIxV 10 (dCall [true, false] [] fn__law_take (dRefA 1 (dCons (dC (.int 7)) dNil))))) (sSeq (sIf (tOrD (dTest (dBin (gEq true) (dCall [false, false, false] [] fn__law_word (dCons (dC (.int 2)) (dCons (dIxV 5 (dC (.int 0))) (dCons (dVar 12) dNil)))) (dC (.str "many")))) (dTest (dBin (gEq true) (dCall [false, false, false] [] fn__law_word (dCons (dC (.int 2)) (dCons (dVar 11) (dCons (dVar 12) dNil)))) (dC (.str "name"))))) (sRet (dC (.bl false))) sNil) (sSeq (sIf (tOrD (dTest (dBin (gEq true) (dCall [false, false, false] [] fn__law_word (dCons (dC (.int 2)) (dCons (dIxV 5 (dC (.int 0))) (dCons (dVar 8) dNil)))) (dC (.str "let")))) (tNotD (dTru (dCall [false, false] [] (fn__law_exact 14) (dCons (dCallB gTuple (dCons (dVar 8) dNil)) (dCons (dCallB gTuple (dCons (dVar 7) dNil)) dNil)))))) (sRet (dC (.bl false))) sNil) (sIf (tNotD (dTru (dCall [false, false] [] (fn__law_exact 14) (dCons (dCall [false, false] [] fn_rewriting_pair (dCons (dIxV 5 (dC (.int 0))) (dCons (dVar 8) dNil))) (dCons (dVar 9) dNil))))) (sRet (dC (.bl false))) sNil)))))
def Z37 : DS := (sSeq (sSet 10 (dLst (dCons (dC (.str "")) (dCons (dBin gAdd (dIxV 5 (dC (.int 0))) (dC (.str "x"))) (dCons (dBin gAdd (dC (.str "X")) (dIxV 5 (dC (.int 0)))) (dCons (dBin gAdd (dIxV 5 (dC (.int 0))) (dC (.str " "))) (dCons (dC .non) (dCons (dC (.bl true)) (dCons (dVar 4) (dCons (dTup (dCons (dIxV 5 (dC (.int 0))) dNil)) (dCons (dLst (dCons (dIxV 5 (dC (.int 0))) dNil)) dNil))))))))))) (sSeq (sSet 11 (dIxV 10 (dCall [true, false] [] fn__law_take (dRefA 1 (dCons (dC (.int 9)) dNil))))) (sSeq (sIf (dTest (dBin (gEq true) (dComp (dRg1 (dC (.int 3))) (setV 13) Q_law_0 E_law_1 [13]) (dLst dNil))) (sRet (dC (.bl false))) sNil) Y37)))
theorem law_Z37 : B_law_0 = (sSeq (sSet 5 (dIxV 2 (dBin (gI cPos fun i j => i % j) (dCallB gInt1 (dCons (dBin gAdd (dVar 3) (dBin (gI cMul fun i j => i * j) (dVar 4) (dC (.int 7)))) dNil)) (dC (.int 18))))) (sSeq (sIf (tOrD (tNotD (dTru (dCall [false, false] [] (fn__law_exact 14) (dCons (dCall [false] [] fn_verdict_of (dCons (dIxV 5 (dC (.int 0))) dNil)) (dCons (dIxV 5 (dC (.int 2))) dNil))))) (tNotD (dTru (dCall [false, false] [] (fn__law_exact 14) (dCons (dCall [false] [] fn_letters_of (dCons (dIxV 5 (dC (.int 0))) dNil)) (dCons (dIxV 5 (dC (.int 1))) dNil)))))) (sRet (dC (.bl false))) sNil) (sSeq (sSet 6 (dCall [true, false] [] fn__law_names (dRefA 1 (dCons (dBin gAdd (dC (.int 1)) (dCall [true, false] [] fn__law_take (dRefA 1 (dCons (dC (.int 3)) dNil)))) dNil)))) (sSeq (sSet 7 (dCall [true, false, false, false, false] [] fn__law_letters (dRefA 1 (dCons (dVar 6) (dCons (dIxV 5 (dC (.int 1))) (dCons (dC (.int 4)) (dCons (dC (.int 3)) dNil))))))) (sSeq (sSet 8 (dCall [true, false] [] fn__law_list (dRefA 1 (dCons (dVar 7) dNil)))) (sSeq (sSet 9 (dTup (dCons (dCall [false, false] [] (fn__law_put 5) (dCons (dIxV 5 (dC (.int 3))) (dCons (dVar 7) dNil))) (dCons (dCall [false, false] [] (fn__law_put 5) (dCons (dIxV 5 (dC (.int 4))) (dCons (dVar 7) dNil))) dNil)))) (sSeq (sIf (tNotD (dTru (dCall [false, false] [] (fn__law_exact 14) (dCons (dCall [false, false] [] fn_rewriting_pair (dCons (dIxV 5 (dC (.int 0))) (dCons (dVar 8) dNil))) (dCons (dVar 9) dNil))))) (sRet (dC (.bl false))) sNil) Z37))))))) := rfl
theorem call_r4R (e : List Nat → DEnv → FO → EO D) (fn : List D → FO) (j : Nat) (a b c d : D) (δ : DEnv) : callK e [true, false, false, false, false] [] fn (.ok [.r j, .v a, .v b, .v c, .v d] δ) = rfK e fn j [a, b, c, d] δ (δ[j]?.bind Sl.cont) := rf_eq δ j e fn [.v a, .v b, .v c, .v d] [false, false, false, false] [a, b, c, d] rfl rfl rfl
theorem e_i0 (e : En) : idxD (enT e) (.int 0) = some (.str e.nm) := ix_any true (k := 0) rfl
theorem e_i1 (e : En) : idxD (enT e) (.int 1) = some (.int (e.many : Int)) := ix_any true (k := 1) rfl
theorem e_i2 (e : En) : idxD (enT e) (.int 2) = some (.str e.vd) := ix_any true (k := 2) rfl
theorem e_i3 (e : En) : idxD (enT e) (.int 3) = some (shD e.lt) := ix_any true (k := 3) rfl
theorem e_i4 (e : En) : idxD (enT e) (.int 4) = some (shD e.rt) := ix_any true (k := 4) rfl
theorem len_all : ents.all (fun e => decide (e.nm.length ≤ 20)) = true := by decide +kernel
theorem nm_len {e : En} (h : e ∈ ents) : e.nm.length ≤ 20 := of_decide_eq_true (List.all_eq_true.mp len_all e h)
theorem add_s {x y : Str} (h : x.length ≤ 20) (h2 : y.length ≤ 20) : gAdd (.str x) (.str y) = some (.str (x ++ y)) := if_pos (by rw [sizeLine_eq]; omega)
theorem isrw_no {x : D} (h : Option.map (fun t => D.bl ((["str"] : List String).any (subT t))) (tyD x) = some (.bl false)) : fn__is_rewriting [x] = .ret (.bl false) [] := by
  have tb : dTruth (.bl false) = some false := rfl
  rw [o__is_rewriting]
  simp -implicitDefEqProofs only [F__is_rewriting, a_seq, a_expr, a_ret, a_retO, a_set, a_setO, a_if, a_unp, a_for, a_nil, a_retN, a_then_0, a_then_1, a_then_2, a_then_3, a_sK_0, a_sK_1, a_ifS_0, a_ifS_1, a_ifS_2, a_k_0, a_k_1, a_k_2, a_k_3, a_k_4, a_k_5, a_k_6, a_setV, a_setOd, a_setVK_0, a_setVK_1, a_setVK_2, a_setVK_3, a_setVK_4, a_setVK_5, a_c, a_var, a_varK_0, a_varK_1, a_bin, a_binK_0, a_binK_1, a_binK_2, a_binK_3, a_oE_0, a_oE_1, a_un, a_unK_0, a_unK_1, a_unK_2, a_unK_3, a_test, a_tru, a_not, a_asB_0, a_asB_1, a_asB_2, a_asB_3, a_lst_0, a_lst_1, a_and, a_or, a_andK_0, a_andK_1, a_andK_2, a_andK_3, a_andK_4, a_andK_5, a_dIf, a_tand, a_tor, a_tnot, a_ifK_0, a_ifK_1, a_ifK_2, a_ifK_3, a_ifK_4, a_cons, a_consK_0, a_consK_1, a_consK_2, a_consK_3, a_consK_4, a_refA, a_refK_0, a_refK_1, a_refK_2, a_cb, a_tup, a_dLst, a_vals0, a_vals1, a_vals2, a_vals3, a_vals4, call_eq, callO_eq, a_call1, a_call2, a_call3, a_call4, a_rf0, a_rf1, a_rf2, a_rfK_0, a_rfK_1, a_rfK_2, a_end0_0, a_end0_1, a_end0_2, a_end0_3, a_end1, a_put1_0, a_put1_1, a_look, a_lkK_0, a_lkK_1, a_lkK_2, a_ixV, a_ixK_0, a_ixK_1, a_ixK_2, a_lenV, a_truV, a_len_0, a_len_1, a_len_2, a_len_3, a_len_4, a_it, a_rg1, a_rgL, a_en, a_zp, a_itK_0, a_itK_1, a_itK_2, a_itE_0, a_itE_1, a_comp, a_compK_0, a_compK_1, a_isi, a_isO, a_gI_0, a_gI_1, a_gI_2, List.getElem?_cons_zero, List.getElem?_cons_succ, List.set_cons_zero, List.set_cons_succ, Option.bind_some, Option.map_some, f_nil, f_cons, f_some, f_nx, f_ct, f_bk, f_rt, f_ex, a_putV, a_pv0, a_pv1, a_put, a_sp0, a_sp1, a_sp2, a_sp3, a_sp4, a_app, a_sa1, a_sa2, a_aug, a_au1, a_au2, a_au3, gEq_int, gNe_int, ct_rf, ct_own, if_true, if_false, Bool.false_eq_true, a_try, a_tryK_0, a_tryK_1, a_tryK_2, a_tryH_0, a_tryH_1, a_tryK2_0, a_tryK2_1, a_hdS_0, a_hdS_1, a_compX, a_compKX_0, a_fld, a_meth, a_prop, a_propK, a_propE, a_make, a_makeK, a_makeE, a_putF, a_pfK, a_lkv, a_lkvK, a_dct1, a_dct1K, a_dct1K2, a_dct2, a_key, a_putK, a_pk0, a_pk1, a_pk2, a_rg2, a_rg2K, a_rg2K2, a_oL, a_raiseF, a_xr1, a_xr2, a_rgDn, a_xf, a_sortK, a_listK, a_lsK, a_tix, a_tixK, a_isX, a_isxK, a_binV, a_get2, a_g2K, a_ixk, a_ixkK, a_ixkE, a_sl, a_slK0, a_slK1, a_slH, a_slL, a_slE, a_slLst, a_slTup, a_cw, a_tupV, a_tpK, a_cwb, a_ch, a_chK, a_ch1, a_ch2, a_ch2', a_ch3, h, tb]
  rfl
theorem isrw_odd {x : Str} (h : tabD kvd_REWRITINGS x = none) : fn__is_rewriting [.str x] = .ret (.bl false) [] := by rw [isrw_str, h]; rfl
theorem odd_ev {e : En} (h : e ∈ ents) (i : Nat) : ∀ t : Nat, t < 9 → ∃ x, idxD (.lst [.str "", .str (e.nm ++ "x"), .str ("X" ++ e.nm), .str (e.nm ++ " "), .non, .bl true, .int (i : Int), .tup [.str e.nm], .lst [.str e.nm]]) (.int (t : Int)) = some x ∧ fn__is_rewriting [x] = .ret (.bl false) [] := fun t ht => by
  have o := ok_ev h
  have : t = 0 ∨ t = 1 ∨ t = 2 ∨ t = 3 ∨ t = 4 ∨ t = 5 ∨ t = 6 ∨ t = 7 ∨ t = 8 := by omega
  rcases this with rfl | rfl | rfl | rfl | rfl | rfl | rfl | rfl | rfl
  · exact ⟨_, ix_any false (k := 0) rfl, isrw_odd (by rfl)⟩
  · exact ⟨_, ix_any false (k := 1) rfl, isrw_odd o.x1⟩
  · exact ⟨_, ix_any false (k := 2) rfl, isrw_odd o.x2⟩
  · exact ⟨_, ix_any false (k := 3) rfl, isrw_odd o.x3⟩
  · exact ⟨_, ix_any false (k := 4) rfl, isrw_no rfl⟩
  · exact ⟨_, ix_any false (k := 5) rfl, isrw_no rfl⟩
  · exact ⟨_, ix_any false (k := 6) rfl, isrw_no rfl⟩
  · exact ⟨_, ix_any false (k := 7) rfl, isrw_no rfl⟩
  · exact ⟨_, ix_any false (k := 8) rfl, isrw_no rfl⟩
theorem seq_non : fn_is_sequence [.non] = .ret (.bl false) [] := rfl
theorem seq_str (x : Str) : fn_is_sequence [.str x] = .ret (.bl false) [] := rfl
theorem seq_int (i : Int) : fn_is_sequence [.int i] = .ret (.bl false) [] := rfl
theorem seq_dct : fn_is_sequence [.dct [] []] = .ret (.bl false) [] := rfl
theorem rst_ev {n : Nat} (h1 : 1 ≤ n) (h3 : n ≤ 3) : ∃ y, slD none (some (n : Int)) (.str "rst") = some (.str y) := ⟨cutS "rst" none (some (n : Int)), if_pos (c := ("rst" : Str).length ≤ sizeLine) (e := none) (by decide +kernel)⟩
theorem many_ev {e : En} (h : e ∈ ents) {ps : List Pg} (hp : ps.length = e.many) (y : Str) (p0 : Pg) : ∀ t : Nat, t < 7 → ∃ x, idxD (.lst [.lst (pgs (ps.drop 1)), .lst (pgs ps ++ [pgD p0]), .non, .str y, .int (e.many : Int), .dct [] [], .tup (pgs (ps.take (ps.length - 1)))]) (.int (t : Int)) = some x ∧ Many e.many x := fun t ht => by
  have o := ok_ev h
  have m1 := o.m1
  have : t = 0 ∨ t = 1 ∨ t = 2 ∨ t = 3 ∨ t = 4 ∨ t = 5 ∨ t = 6 := by omega
  rcases this with rfl | rfl | rfl | rfl | rfl | rfl | rfl
  · exact ⟨_, ix_any false (k := 0) rfl, .ln false (by rw [pgs_len, List.length_drop]; omega)⟩
  · exact ⟨_, ix_any false (k := 1) rfl, .ln false (by rw [List.length_append, pgs_len]; show ps.length + 1 ≠ _; omega)⟩
  · exact ⟨_, ix_any false (k := 2) rfl, .no seq_non⟩
  · exact ⟨_, ix_any false (k := 3) rfl, .no (seq_str y)⟩
  · exact ⟨_, ix_any false (k := 4) rfl, .no (seq_int _)⟩
  · exact ⟨_, ix_any false (k := 5) rfl, .no seq_dct⟩
  · exact ⟨_, ix_any false (k := 6) rfl, .ln true (by rw [pgs_len, List.length_take]; omega)⟩
theorem v7 (a b c d e f g : D) (δ : DEnv) : valsK gLstD (.ok [.v a, .v b, .v c, .v d, .v e, .v f, .v g] δ) = oE (gLstD [a, b, c, d, e, f, g]) δ := rfl
theorem v9 (a b c d e f g h i : D) (δ : DEnv) : valsK gLstD (.ok [.v a, .v b, .v c, .v d, .v e, .v f, .v g, .v h, .v i] δ) = oE (gLstD [a, b, c, d, e, f, g, h, i]) δ := rfl
theorem l7 (a b c d e f g : D) : gLstD [a, b, c, d, e, f, g] = some (.lst [a, b, c, d, e, f, g]) := if_pos (le_line (by show 7 ≤ 4096; decide))
theorem l9 (a b c d e f g h i : D) : gLstD [a, b, c, d, e, f, g, h, i] = some (.lst [a, b, c, d, e, f, g, h, i]) := if_pos (le_line (by show 9 ≤ 4096; decide))
theorem tup_sq (q : Bool) (ds : List D) : gTuple [sq q ds] = some (.tup ds) := by cases q <;> rfl
theorem nq_name : gEq true (.str "name") (.str "name") = some (.bl false) := xs_ne _ (by decide +kernel)
theorem nq_many : gEq true (.str "many") (.str "many") = some (.bl false) := xs_ne _ (by decide +kernel)
theorem nq_let : gEq true (.str "let") (.str "let") = some (.bl false) := xs_ne _ (by decide +kernel)
section
variable {xs : List Str} (hx : ∀ x ∈ xs, x ∈ pool10)
include hx
theorem due_exact {e : En} (h : e ∈ ents) {n : Nat} {ps : List Pg} (L : Lts xs n ps) : fn__law_exact 14 [.tup [pgD (fil ps e.lt), pgD (fil ps e.rt)], .tup [pgD (fil ps e.lt), pgD (fil ps e.rt)]] = .ret (.bl true) [] := by
  have o := ok_ev h
  have hs : ∀ x ∈ xs, PyData.strOk x = true := fun x hh => pool10_ok x (hx x hh)
  refine exS 13 _ ⟨by show 2 ≤ 4096; decide, fun d hd => ?_⟩
  rcases List.mem_cons.mp hd with rfl | hd
  · exact plS_mono (m := 12) (by have := fil_dp (show 1 ≤ 7 by decide) L.dp e.lt; have := o.ld; omega) (plS_pg hs _ (fil_in L.nm e.lt))
  · rw [List.mem_singleton.mp hd]
    exact plS_mono (m := 12) (by have := fil_dp (show 1 ≤ 7 by decide) L.dp e.rt; have := o.rd; omega) (plS_pg hs _ (fil_in L.nm e.rt))
theorem pgs_exact {n : Nat} {ps : List Pg} (L : Lts xs n ps) (hn : n ≤ 3) : fn__law_exact 14 [.tup (pgs ps), .tup (pgs ps)] = .ret (.bl true) [] := by
  have hs : ∀ x ∈ xs, PyData.strOk x = true := fun x hh => pool10_ok x (hx x hh)
  refine exS 13 _ ⟨by rw [pgs_len, L.ln]; omega, fun d hd => ?_⟩
  obtain ⟨p, hp, rfl⟩ := List.mem_map.mp hd
  exact plS_mono (m := 12) (by have := L.dp p hp; omega) (plS_pg hs _ (L.nm p hp))
theorem last37 (ns : List Int) (f i : Nat) {e : En} (h : e ∈ ents) {ps : List Pg} (L : Lts xs e.many ps) (q : Bool) (x10 x11 : D) (ho : fn__is_rewriting [x11] = .ret (.bl false) []) (s12 : Sl) (h12 : Pv s12) (d : D) (hd : Hand d) : ∃ d' y10 y12, Hand d' ∧
    Y37 [.val (.scr ns), .own d, .val (.lst (ents.map enT)), .val (.int (f : Int)), .val (.int (i : Int)), .val (enT e), .val (.lst (txD xs)), .val (.lst (pgs ps)), .val (sq q (pgs ps)), .val (.tup [pgD (fil ps e.lt), pgD (fil ps e.rt)]), .val x10, .val x11, s12, .un] = .nx [.val (.scr ns), .own d', .val (.lst (ents.map enT)), .val (.int (f : Int)), .val (.int (i : Int)), .val (enT e), .val (.lst (txD xs)), .val (.lst (pgs ps)), .val (sq q (pgs ps)), .val (.tup [pgD (fil ps e.lt), pgD (fil ps e.rt)]), .val y10, .val x11, .val y12, .un] := by
  have o := ok_ev h
  have hp := L.ln
  have hl : 0 < ps.length := by have := o.m1; omega
  have c1 : cutL (pgs ps) (some 1) none = pgs (ps.drop 1) := by
    have e : cutL (pgs ps) (some ((1 : Nat) : Int)) none = _ := cutL_drop (pgs ps) 1 (by rw [pgs_len]; omega)
    rw [show (some (1 : Int)) = some ((1 : Nat) : Int) from rfl, e]; unfold pgs; rw [List.map_drop]
  have ix0 : idxD (.lst (pgs ps)) (.int 0) = some (pgD ps[0]) := pgs_at hl
  have l1 : ∀ a : D, gLstD [a] = some (.lst [a]) := fun a => if_pos (le_line (by show 1 ≤ 4096; decide))
  have ga := gaL (pgs ps) [pgD ps[0]] (by rw [pgs_len, hp]; have := o.m3; show e.many + 1 ≤ _; omega)
  obtain ⟨y, hy⟩ := rst_ev o.m1 o.m3
  have c2 : cutL (pgs ps) none (some (-1)) = pgs (ps.take (ps.length - 1)) := by rw [cutL_init, pgs_len]; unfold pgs; rw [List.map_take]
  obtain ⟨t, d1, e1, hd1, ht⟩ := take_nat d 7 hd (by decide) (by decide)
  have e1 : fn__law_take [d, .int 7] = .ret (.int (t : Int)) [d1] := e1
  obtain ⟨x, ix, hm⟩ := many_ev h hp y ps[0] t ht
  have w1 := word_many h hm
  have w2 : fn__law_word [.int 2, x11, x] = .ret (.str "name") [] := word_odd x ho (w := 2) (by decide)
  have w3 := word_let q h hp
  have ts := tup_sq q (pgs ps)
  have x1 := pgs_exact hx L o.m3
  have pr := pair_ev q h hp
  have x2 := due_exact hx h L
  refine ⟨d1, .lst [.lst (pgs (ps.drop 1)), .lst (pgs ps ++ [pgD ps[0]]), .non, .str y, .int (e.many : Int), .dct [] [], .tup (pgs (ps.take (ps.length - 1)))], x, hd1, ?_⟩
  simp -implicitDefEqProofs only [Y37, a_seq, a_expr, a_ret, a_retO, a_set, a_setO, a_if, a_unp, a_for, a_nil, a_retN, a_then_0, a_then_1, a_then_2, a_then_3, a_sK_0, a_sK_1, a_ifS_0, a_ifS_1, a_ifS_2, a_k_0, a_k_1, a_k_2, a_k_3, a_k_4, a_k_5, a_k_6, a_setV, a_setOd, a_setVK_0, a_setVK_1, a_setVK_2, a_setVK_3, a_setVK_4, a_setVK_5, a_c, a_var, a_varK_0, a_varK_1, a_bin, a_binK_0, a_binK_1, a_binK_2, a_binK_3, a_oE_0, a_oE_1, a_un, a_unK_0, a_unK_1, a_unK_2, a_unK_3, a_test, a_tru, a_not, a_asB_0, a_asB_1, a_asB_2, a_asB_3, a_lst_0, a_lst_1, a_and, a_or, a_andK_0, a_andK_1, a_andK_2, a_andK_3, a_andK_4, a_andK_5, a_dIf, a_tand, a_tor, a_tnot, a_ifK_0, a_ifK_1, a_ifK_2, a_ifK_3, a_ifK_4, a_cons, a_consK_0, a_consK_1, a_consK_2, a_consK_3, a_consK_4, a_refA, a_refK_0, a_refK_1, a_refK_2, a_cb, a_tup, a_dLst, a_vals0, a_vals1, a_vals2, a_vals3, a_vals4, call_eq, callO_eq, a_call1, a_call2, a_call3, a_call4, a_rf0, a_rf1, a_rf2, a_rfK_0, a_rfK_1, a_rfK_2, a_end0_0, a_end0_1, a_end0_2, a_end0_3, a_end1, a_put1_0, a_put1_1, a_look, a_lkK_0, a_lkK_1, a_lkK_2, a_ixV, a_ixK_0, a_ixK_1, a_ixK_2, a_lenV, a_truV, a_len_0, a_len_1, a_len_2, a_len_3, a_len_4, a_it, a_rg1, a_rgL, a_en, a_zp, a_itK_0, a_itK_1, a_itK_2, a_itE_0, a_itE_1, a_comp, a_compK_0, a_compK_1, a_isi, a_isO, a_gI_0, a_gI_1, a_gI_2, List.getElem?_cons_zero, List.getElem?_cons_succ, List.set_cons_zero, List.set_cons_succ, Option.bind_some, Option.map_some, f_nil, f_cons, f_some, f_nx, f_ct, f_bk, f_rt, f_ex, a_putV, a_pv0, a_pv1, a_put, a_sp0, a_sp1, a_sp2, a_sp3, a_sp4, a_app, a_sa1, a_sa2, a_aug, a_au1, a_au2, a_au3, gEq_int, gNe_int, ct_rf, ct_own, if_true, if_false, Bool.false_eq_true, a_try, a_tryK_0, a_tryK_1, a_tryK_2, a_tryH_0, a_tryH_1, a_tryK2_0, a_tryK2_1, a_hdS_0, a_hdS_1, a_compX, a_compKX_0, a_fld, a_meth, a_prop, a_propK, a_propE, a_make, a_makeK, a_makeE, a_putF, a_pfK, a_lkv, a_lkvK, a_dct1, a_dct1K, a_dct1K2, a_dct2, a_key, a_putK, a_pk0, a_pk1, a_pk2, a_rg2, a_rg2K, a_rg2K2, a_oL, a_raiseF, a_xr1, a_xr2, a_rgDn, a_xf, a_sortK, a_listK, a_lsK, a_tix, a_tixK, a_isX, a_isxK, a_binV, a_get2, a_g2K, a_ixk, a_ixkK, a_ixkE, a_sl, a_slK0, a_slK1, a_slH, a_slL, a_slE, a_slLst, a_slTup, a_cw, a_tupV, a_tpK, a_cwb, a_ch, a_chK, a_ch1, a_ch2, a_ch2', a_ch3, c1, ix0, l1, ga, e_i1, hy, neg1, c2, tup_of, v7, l7, e1, ix, set_nr (pv_nr h12), e_i0, w1, nq_many, w2, nq_name, w3, nq_let, ts, x1, pr, x2, Bool.not_true]
theorem odd37 (ns : List Int) (f i : Nat) {e : En} (h : e ∈ ents) {ps : List Pg} (L : Lts xs e.many ps) (q : Bool) (s10 s11 s12 : Sl) (h10 : Pv s10) (h11 : Pv s11) (h12 : Pv s12) (d : D) (hd : Hand d) : ∃ d' y10 y11 y12, Hand d' ∧
    Z37 [.val (.scr ns), .own d, .val (.lst (ents.map enT)), .val (.int (f : Int)), .val (.int (i : Int)), .val (enT e), .val (.lst (txD xs)), .val (.lst (pgs ps)), .val (sq q (pgs ps)), .val (.tup [pgD (fil ps e.lt), pgD (fil ps e.rt)]), s10, s11, s12, .un] = .nx [.val (.scr ns), .own d', .val (.lst (ents.map enT)), .val (.int (f : Int)), .val (.int (i : Int)), .val (enT e), .val (.lst (txD xs)), .val (.lst (pgs ps)), .val (sq q (pgs ps)), .val (.tup [pgD (fil ps e.lt), pgD (fil ps e.rt)]), .val y10, .val y11, .val y12, .un] := by
  have l := nm_len h
  have a1 := add_s (x := e.nm) (y := "x") l (by decide +kernel)
  have a2 := add_s (x := "X") (y := e.nm) (by decide +kernel) l
  have a3 := add_s (x := e.nm) (y := " ") l (by decide +kernel)
  have t1 : ∀ a : D, gTupD [a] = some (.tup [a]) := fun a => if_pos (le_line (by show 1 ≤ 4096; decide))
  have l1 : ∀ a : D, gLstD [a] = some (.lst [a]) := fun a => if_pos (le_line (by show 1 ≤ 4096; decide))
  obtain ⟨t, d1, e1, hd1, ht⟩ := take_nat d 9 hd (by decide) (by decide)
  have e1 : fn__law_take [d, .int 9] = .ret (.int (t : Int)) [d1] := e1
  obtain ⟨x, ix, ho⟩ := odd_ev h i t ht
  have it : ∀ δ, itK1 rg1 (.ok (.int 3) δ) = .ok (rowD (List.range 3)) δ := fun δ => by rw [← rowD_range]; exact itF 3 (by decide) δ
  have c : compL (setV 13) Q_law_0 E_law_1 [13] (rowD (List.range 3)) [.val (.scr ns), .own d1, .val (.lst (ents.map enT)), .val (.int (f : Int)), .val (.int (i : Int)), .val (enT e), .val (.lst (txD xs)), .val (.lst (pgs ps)), .val (sq q (pgs ps)), .val (.tup [pgD (fil ps e.lt), pgD (fil ps e.rt)]), .val (.lst [.str "", .str (e.nm ++ "x"), .str ("X" ++ e.nm), .str (e.nm ++ " "), .non, .bl true, .int (i : Int), .tup [.str e.nm], .lst [.str e.nm]]), .val x, s12, .un] [] = .ok (.lst (rowD ((List.range 3).filter fun _ => false))) [.val (.scr ns), .own d1, .val (.lst (ents.map enT)), .val (.int (f : Int)), .val (.int (i : Int)), .val (enT e), .val (.lst (txD xs)), .val (.lst (pgs ps)), .val (sq q (pgs ps)), .val (.tup [pgD (fil ps e.lt), pgD (fil ps e.rt)]), .val (.lst [.str "", .str (e.nm ++ "x"), .str ("X" ++ e.nm), .str (e.nm ++ " "), .non, .bl true, .int (i : Int), .tup [.str e.nm], .lst [.str e.nm]]), .val x, s12, .un] := by
    refine comp_rows (A := setV 13) (t := Q_law_0) (el := E_law_1) (vs := [13]) (Γ := fun z => [.val (.scr ns), .rf d1, .val (.lst (ents.map enT)), .val (.int (f : Int)), .val (.int (i : Int)), .val (enT e), .val (.lst (txD xs)), .val (.lst (pgs ps)), .val (sq q (pgs ps)), .val (.tup [pgD (fil ps e.lt), pgD (fil ps e.rt)]), .val (.lst [.str "", .str (e.nm ++ "x"), .str ("X" ++ e.nm), .str (e.nm ++ " "), .non, .bl true, .int (i : Int), .tup [.str e.nm], .lst [.str e.nm]]), .val x, s12, .val z]) (fun _ => false) _ rfl (fun _ => by rcases h12 with rfl | ⟨a, rfl⟩ <;> rfl) (fun _ => by rcases h12 with rfl | ⟨a, rfl⟩ <;> rfl) (by decide) fun k hk => ⟨?_, fun z => by cases z⟩
    have w := word_odd (sq q (pgs ps)) ho (List.mem_range.mp hk)
    simp -implicitDefEqProofs only [Q_law_0, a_seq, a_expr, a_ret, a_retO, a_set, a_setO, a_if, a_unp, a_for, a_nil, a_retN, a_then_0, a_then_1, a_then_2, a_then_3, a_sK_0, a_sK_1, a_ifS_0, a_ifS_1, a_ifS_2, a_k_0, a_k_1, a_k_2, a_k_3, a_k_4, a_k_5, a_k_6, a_setV, a_setOd, a_setVK_0, a_setVK_1, a_setVK_2, a_setVK_3, a_setVK_4, a_setVK_5, a_c, a_var, a_varK_0, a_varK_1, a_bin, a_binK_0, a_binK_1, a_binK_2, a_binK_3, a_oE_0, a_oE_1, a_un, a_unK_0, a_unK_1, a_unK_2, a_unK_3, a_test, a_tru, a_not, a_asB_0, a_asB_1, a_asB_2, a_asB_3, a_lst_0, a_lst_1, a_and, a_or, a_andK_0, a_andK_1, a_andK_2, a_andK_3, a_andK_4, a_andK_5, a_dIf, a_tand, a_tor, a_tnot, a_ifK_0, a_ifK_1, a_ifK_2, a_ifK_3, a_ifK_4, a_cons, a_consK_0, a_consK_1, a_consK_2, a_consK_3, a_consK_4, a_refA, a_refK_0, a_refK_1, a_refK_2, a_cb, a_tup, a_dLst, a_vals0, a_vals1, a_vals2, a_vals3, a_vals4, call_eq, callO_eq, a_call1, a_call2, a_call3, a_call4, a_rf0, a_rf1, a_rf2, a_rfK_0, a_rfK_1, a_rfK_2, a_end0_0, a_end0_1, a_end0_2, a_end0_3, a_end1, a_put1_0, a_put1_1, a_look, a_lkK_0, a_lkK_1, a_lkK_2, a_ixV, a_ixK_0, a_ixK_1, a_ixK_2, a_lenV, a_truV, a_len_0, a_len_1, a_len_2, a_len_3, a_len_4, a_it, a_rg1, a_rgL, a_en, a_zp, a_itK_0, a_itK_1, a_itK_2, a_itE_0, a_itE_1, a_comp, a_compK_0, a_compK_1, a_isi, a_isO, a_gI_0, a_gI_1, a_gI_2, List.getElem?_cons_zero, List.getElem?_cons_succ, List.set_cons_zero, List.set_cons_succ, Option.bind_some, Option.map_some, f_nil, f_cons, f_some, f_nx, f_ct, f_bk, f_rt, f_ex, a_putV, a_pv0, a_pv1, a_put, a_sp0, a_sp1, a_sp2, a_sp3, a_sp4, a_app, a_sa1, a_sa2, a_aug, a_au1, a_au2, a_au3, gEq_int, gNe_int, ct_rf, ct_own, if_true, if_false, Bool.false_eq_true, a_try, a_tryK_0, a_tryK_1, a_tryK_2, a_tryH_0, a_tryH_1, a_tryK2_0, a_tryK2_1, a_hdS_0, a_hdS_1, a_compX, a_compKX_0, a_fld, a_meth, a_prop, a_propK, a_propE, a_make, a_makeK, a_makeE, a_putF, a_pfK, a_lkv, a_lkvK, a_dct1, a_dct1K, a_dct1K2, a_dct2, a_key, a_putK, a_pk0, a_pk1, a_pk2, a_rg2, a_rg2K, a_rg2K2, a_oL, a_raiseF, a_xr1, a_xr2, a_rgDn, a_xf, a_sortK, a_listK, a_lsK, a_tix, a_tixK, a_isX, a_isxK, a_binV, a_get2, a_g2K, a_ixk, a_ixkK, a_ixkE, a_sl, a_slK0, a_slK1, a_slH, a_slL, a_slE, a_slLst, a_slTup, a_cw, a_tupV, a_tpK, a_cwb, a_ch, a_chK, a_ch1, a_ch2, a_ch2', a_ch3, w, nq_name]
  have c : compL (setV 13) Q_law_0 E_law_1 [13] (rowD (List.range 3)) _ [] = .ok (.lst []) _ := c
  have l0 : gLstD [] = some (.lst []) := rfl
  have g0 := geq_nil0 true
  obtain ⟨d2, y10, y12, hd2, e2⟩ := last37 hx ns f i h L q (.lst [.str "", .str (e.nm ++ "x"), .str ("X" ++ e.nm), .str (e.nm ++ " "), .non, .bl true, .int (i : Int), .tup [.str e.nm], .lst [.str e.nm]]) x ho s12 h12 d1 hd1
  refine ⟨d2, y10, x, y12, hd2, ?_⟩
  simp -implicitDefEqProofs only [Z37, a_seq, a_expr, a_ret, a_retO, a_set, a_setO, a_if, a_unp, a_for, a_nil, a_retN, a_then_0, a_then_1, a_then_2, a_then_3, a_sK_0, a_sK_1, a_ifS_0, a_ifS_1, a_ifS_2, a_k_0, a_k_1, a_k_2, a_k_3, a_k_4, a_k_5, a_k_6, a_setV, a_setOd, a_setVK_0, a_setVK_1, a_setVK_2, a_setVK_3, a_setVK_4, a_setVK_5, a_c, a_var, a_varK_0, a_varK_1, a_bin, a_binK_0, a_binK_1, a_binK_2, a_binK_3, a_oE_0, a_oE_1, a_un, a_unK_0, a_unK_1, a_unK_2, a_unK_3, a_test, a_tru, a_not, a_asB_0, a_asB_1, a_asB_2, a_asB_3, a_lst_0, a_lst_1, a_and, a_or, a_andK_0, a_andK_1, a_andK_2, a_andK_3, a_andK_4, a_andK_5, a_dIf, a_tand, a_tor, a_tnot, a_ifK_0, a_ifK_1, a_ifK_2, a_ifK_3, a_ifK_4, a_cons, a_consK_0, a_consK_1, a_consK_2, a_consK_3, a_consK_4, a_refA, a_refK_0, a_refK_1, a_refK_2, a_cb, a_tup, a_dLst, a_vals0, a_vals1, a_vals2, a_vals3, a_vals4, call_eq, callO_eq, a_call1, a_call2, a_call3, a_call4, a_rf0, a_rf1, a_rf2, a_rfK_0, a_rfK_1, a_rfK_2, a_end0_0, a_end0_1, a_end0_2, a_end0_3, a_end1, a_put1_0, a_put1_1, a_look, a_lkK_0, a_lkK_1, a_lkK_2, a_ixV, a_ixK_0, a_ixK_1, a_ixK_2, a_lenV, a_truV, a_len_0, a_len_1, a_len_2, a_len_3, a_len_4, a_it, a_rg1, a_rgL, a_en, a_zp, a_itK_0, a_itK_1, a_itK_2, a_itE_0, a_itE_1, a_comp, a_compK_0, a_compK_1, a_isi, a_isO, a_gI_0, a_gI_1, a_gI_2, List.getElem?_cons_zero, List.getElem?_cons_succ, List.set_cons_zero, List.set_cons_succ, Option.bind_some, Option.map_some, f_nil, f_cons, f_some, f_nx, f_ct, f_bk, f_rt, f_ex, a_putV, a_pv0, a_pv1, a_put, a_sp0, a_sp1, a_sp2, a_sp3, a_sp4, a_app, a_sa1, a_sa2, a_aug, a_au1, a_au2, a_au3, gEq_int, gNe_int, ct_rf, ct_own, if_true, if_false, Bool.false_eq_true, a_try, a_tryK_0, a_tryK_1, a_tryK_2, a_tryH_0, a_tryH_1, a_tryK2_0, a_tryK2_1, a_hdS_0, a_hdS_1, a_compX, a_compKX_0, a_fld, a_meth, a_prop, a_propK, a_propE, a_make, a_makeK, a_makeE, a_putF, a_pfK, a_lkv, a_lkvK, a_dct1, a_dct1K, a_dct1K2, a_dct2, a_key, a_putK, a_pk0, a_pk1, a_pk2, a_rg2, a_rg2K, a_rg2K2, a_oL, a_raiseF, a_xr1, a_xr2, a_rgDn, a_xf, a_sortK, a_listK, a_lsK, a_tix, a_tixK, a_isX, a_isxK, a_binV, a_get2, a_g2K, a_ixk, a_ixkK, a_ixkE, a_sl, a_slK0, a_slK1, a_slH, a_slL, a_slE, a_slLst, a_slTup, a_cw, a_tupV, a_tpK, a_cwb, a_ch, a_chK, a_ch1, a_ch2, a_ch2', a_ch3, e_i0, a1, a2, a3, t1, l1, v9, l9, set_nr (pv_nr h10), e1, ix, set_nr (pv_nr h11), it, c, l0, g0, Bool.not_true]
  exact e2
end
theorem ent_at (k : Nat) (h : k < 18) : ∃ e ∈ ents, idxD (.lst (ents.map enT)) (.int (k : Int)) = some (enT e) := by
  have hl : k < ents.length := h
  exact ⟨ents[k], List.getElem_mem hl, ix_any false (by rw [List.getElem?_map, List.getElem?_eq_getElem hl]; rfl)⟩
def Inv37 (ns : List Int) (f : Nat) (δ : DEnv) : Prop := ∃ d s4 s5 s6 s7 s8 s9 s10 s11 s12, Hand d ∧ Pv s4 ∧ Pv s5 ∧ Pv s6 ∧ Pv s7 ∧ Pv s8 ∧ Pv s9 ∧ Pv s10 ∧ Pv s11 ∧ Pv s12 ∧ δ = [.val (.scr ns), .own d, .val (.lst (ents.map enT)), .val (.int (f : Int)), s4, s5, s6, s7, s8, s9, s10, s11, s12, .un]
theorem turn37 (ns : List Int) {f : Nat} (hf : f < 18) {i : Nat} (hi : i < 6) (δ : DEnv) (I : Inv37 ns f δ) : ∃ δ1 δ2, setV 4 (.int (i : Int)) δ = some δ1 ∧ B_law_0 δ1 = .nx δ2 ∧ Inv37 ns f δ2 := by
  obtain ⟨d, s4, s5, s6, s7, s8, s9, s10, s11, s12, hd, h4, h5, h6, h7, h8, h9, h10, h11, h12, rfl⟩ := I
  have cm : cMul (i : Int) 7 = true := mul_ok (by omega) (by decide)
  have g7 : ((i : Int) * 7) = ((i * 7 : Nat) : Int) := by omega
  have gA := addn f (i * 7)
  have i1 := int1 ((f + i * 7 : Nat) : Int)
  have cp : cPos ((f + i * 7 : Nat) : Int) 18 = true := pos_ok (by decide)
  have md : ((f + i * 7 : Nat) : Int) % 18 = (((f + i * 7) % 18 : Nat) : Int) := by omega
  obtain ⟨e, he, ie⟩ := ent_at ((f + i * 7) % 18) (Nat.mod_lt _ (by decide))
  have o := ok_ev he
  have ve := verdict_ev he
  have le := letters_ev he
  have x1 : fn__law_exact 14 [.str e.vd, .str e.vd] = .ret (.bl true) [] := exact_str 13 _ (xs_ok _ o.v)
  have x2 : ∀ j : Int, fn__law_exact 14 [.int j, .int j] = .ret (.bl true) [] := exact_int 13
  obtain ⟨t, d1, e1, hd1, ht⟩ := take_nat d 3 hd (by decide) (by decide)
  have e1 : fn__law_take [d, .int 3] = .ret (.int (t : Int)) [d1] := e1
  have g1 : ∀ n : Nat, gAdd (.int 1) (.int (n : Int)) = some (.int ((1 + n : Nat) : Int)) := fun n => addn 1 n
  obtain ⟨xs, d2, e2, hd2, xl, xn, hx⟩ := names_ev (1 + t) (by omega) d1 hd1
  obtain ⟨ps, d3, e3, hd3, L⟩ := letters_draw xs (by omega) (by omega) o.m1 o.m3 d2 hd2
  obtain ⟨q, d4, e4, hd4⟩ := list_ev d3 (pgs ps) hd3
  have h3 : ps.length ≤ 3 := by rw [L.ln]; exact o.m3
  have p1 := lput_ev h3 5 e.lt o.ld (by rw [L.ln]; exact o.l)
  have p2 := lput_ev h3 5 e.rt o.rd (by rw [L.ln]; exact o.r)
  have t2 : ∀ a b : D, gTupD [a, b] = some (.tup [a, b]) := fun a b => if_pos (le_line (by show 2 ≤ 4096; decide))
  have pr := pair_ev q he L.ln
  have x3 := due_exact hx he L
  obtain ⟨d5, y10, y11, y12, hd5, ez⟩ := odd37 hx ns f i he L q s10 s11 s12 h10 h11 h12 d4 hd4
  refine ⟨[.val (.scr ns), .own d, .val (.lst (ents.map enT)), .val (.int (f : Int)), .val (.int (i : Int)), s5, s6, s7, s8, s9, s10, s11, s12, .un], _, by rcases h4 with rfl | ⟨a, rfl⟩ <;> rfl, ?_, ⟨d5, .val (.int (i : Int)), .val (enT e), .val (.lst (txD xs)), .val (.lst (pgs ps)), .val (sq q (pgs ps)), .val (.tup [pgD (fil ps e.lt), pgD (fil ps e.rt)]), .val y10, .val y11, .val y12, hd5, .inr ⟨_, rfl⟩, .inr ⟨_, rfl⟩, .inr ⟨_, rfl⟩, .inr ⟨_, rfl⟩, .inr ⟨_, rfl⟩, .inr ⟨_, rfl⟩, .inr ⟨_, rfl⟩, .inr ⟨_, rfl⟩, .inr ⟨_, rfl⟩, rfl⟩⟩
  rw [law_Z37]
  simp -implicitDefEqProofs only [a_seq, a_expr, a_ret, a_retO, a_set, a_setO, a_if, a_unp, a_for, a_nil, a_retN, a_then_0, a_then_1, a_then_2, a_then_3, a_sK_0, a_sK_1, a_ifS_0, a_ifS_1, a_ifS_2, a_k_0, a_k_1, a_k_2, a_k_3, a_k_4, a_k_5, a_k_6, a_setV, a_setOd, a_setVK_0, a_setVK_1, a_setVK_2, a_setVK_3, a_setVK_4, a_setVK_5, a_c, a_var, a_varK_0, a_varK_1, a_bin, a_binK_0, a_binK_1, a_binK_2, a_binK_3, a_oE_0, a_oE_1, a_un, a_unK_0, a_unK_1, a_unK_2, a_unK_3, a_test, a_tru, a_not, a_asB_0, a_asB_1, a_asB_2, a_asB_3, a_lst_0, a_lst_1, a_and, a_or, a_andK_0, a_andK_1, a_andK_2, a_andK_3, a_andK_4, a_andK_5, a_dIf, a_tand, a_tor, a_tnot, a_ifK_0, a_ifK_1, a_ifK_2, a_ifK_3, a_ifK_4, a_cons, a_consK_0, a_consK_1, a_consK_2, a_consK_3, a_consK_4, a_refA, a_refK_0, a_refK_1, a_refK_2, a_cb, a_tup, a_dLst, a_vals0, a_vals1, a_vals2, a_vals3, a_vals4, call_eq, callO_eq, a_call1, a_call2, a_call3, a_call4, a_rf0, a_rf1, a_rf2, a_rfK_0, a_rfK_1, a_rfK_2, a_end0_0, a_end0_1, a_end0_2, a_end0_3, a_end1, a_put1_0, a_put1_1, a_look, a_lkK_0, a_lkK_1, a_lkK_2, a_ixV, a_ixK_0, a_ixK_1, a_ixK_2, a_lenV, a_truV, a_len_0, a_len_1, a_len_2, a_len_3, a_len_4, a_it, a_rg1, a_rgL, a_en, a_zp, a_itK_0, a_itK_1, a_itK_2, a_itE_0, a_itE_1, a_comp, a_compK_0, a_compK_1, a_isi, a_isO, a_gI_0, a_gI_1, a_gI_2, List.getElem?_cons_zero, List.getElem?_cons_succ, List.set_cons_zero, List.set_cons_succ, Option.bind_some, Option.map_some, f_nil, f_cons, f_some, f_nx, f_ct, f_bk, f_rt, f_ex, a_putV, a_pv0, a_pv1, a_put, a_sp0, a_sp1, a_sp2, a_sp3, a_sp4, a_app, a_sa1, a_sa2, a_aug, a_au1, a_au2, a_au3, gEq_int, gNe_int, ct_rf, ct_own, if_true, if_false, Bool.false_eq_true, a_try, a_tryK_0, a_tryK_1, a_tryK_2, a_tryH_0, a_tryH_1, a_tryK2_0, a_tryK2_1, a_hdS_0, a_hdS_1, a_compX, a_compKX_0, a_fld, a_meth, a_prop, a_propK, a_propE, a_make, a_makeK, a_makeE, a_putF, a_pfK, a_lkv, a_lkvK, a_dct1, a_dct1K, a_dct1K2, a_dct2, a_key, a_putK, a_pk0, a_pk1, a_pk2, a_rg2, a_rg2K, a_rg2K2, a_oL, a_raiseF, a_xr1, a_xr2, a_rgDn, a_xf, a_sortK, a_listK, a_lsK, a_tix, a_tixK, a_isX, a_isxK, a_binV, a_get2, a_g2K, a_ixk, a_ixkK, a_ixkE, a_sl, a_slK0, a_slK1, a_slH, a_slL, a_slE, a_slLst, a_slTup, a_cw, a_tupV, a_tpK, a_cwb, a_ch, a_chK, a_ch1, a_ch2, a_ch2', a_ch3, cm, g7, gA, i1, cp, md, ie, set_nr (pv_nr h5), e_i0, e_i1, e_i2, e_i3, e_i4, ve, x1, Bool.not_true, le, x2, e1, g1, e2, set_nr (pv_nr h6), call_r4R, e3, set_nr (pv_nr h7), e4, set_nr (pv_nr h8), p1, p2, t2, set_nr (pv_nr h9), pr, x3]
  exact ez
theorem main (ns : List Int) (hns : ns.length ≤ 63) : fn_law [.scr ns] = .ret (.bl true) [] := by
  obtain ⟨d0, e0, hd0⟩ := hand_ev ns hns
  have tb := table_ev
  have rn : fn_rewriting_names [] = .ret (tupM kvd_REWRITINGS) [] := rfl
  have nx := names_exact
  have c : compL (setV 5) dYes E_law_0 [5] (ents.map enT) [.val (.scr ns), .own d0, .val (.lst (ents.map enT)), .un, .un, .un, .un, .un, .un, .un, .un, .un, .un, .un] [] = .ok (.lst (ents.map fun e => .str e.nm)) [.val (.scr ns), .own d0, .val (.lst (ents.map enT)), .un, .un, .un, .un, .un, .un, .un, .un, .un, .un, .un] := by
    have q := comp_anyS (A := setV 5) (t := dYes) (el := E_law_0) (vs := [5]) (δ := [.val (.scr ns), .own d0, .val (.lst (ents.map enT)), .un, .un, .un, .un, .un, .un, .un, .un, .un, .un, .un]) enT (fun e => [.val (.scr ns), .rf d0, .val (.lst (ents.map enT)), .un, .un, .val (enT e), .un, .un, .un, .un, .un, .un, .un, .un]) (fun e => .str e.nm) (fun _ => true) rfl (fun _ => rfl) (fun _ => rfl) ents [] (by decide) fun e he => ⟨rfl, fun _ => by
      simp -implicitDefEqProofs only [E_law_0, a_seq, a_expr, a_ret, a_retO, a_set, a_setO, a_if, a_unp, a_for, a_nil, a_retN, a_then_0, a_then_1, a_then_2, a_then_3, a_sK_0, a_sK_1, a_ifS_0, a_ifS_1, a_ifS_2, a_k_0, a_k_1, a_k_2, a_k_3, a_k_4, a_k_5, a_k_6, a_setV, a_setOd, a_setVK_0, a_setVK_1, a_setVK_2, a_setVK_3, a_setVK_4, a_setVK_5, a_c, a_var, a_varK_0, a_varK_1, a_bin, a_binK_0, a_binK_1, a_binK_2, a_binK_3, a_oE_0, a_oE_1, a_un, a_unK_0, a_unK_1, a_unK_2, a_unK_3, a_test, a_tru, a_not, a_asB_0, a_asB_1, a_asB_2, a_asB_3, a_lst_0, a_lst_1, a_and, a_or, a_andK_0, a_andK_1, a_andK_2, a_andK_3, a_andK_4, a_andK_5, a_dIf, a_tand, a_tor, a_tnot, a_ifK_0, a_ifK_1, a_ifK_2, a_ifK_3, a_ifK_4, a_cons, a_consK_0, a_consK_1, a_consK_2, a_consK_3, a_consK_4, a_refA, a_refK_0, a_refK_1, a_refK_2, a_cb, a_tup, a_dLst, a_vals0, a_vals1, a_vals2, a_vals3, a_vals4, call_eq, callO_eq, a_call1, a_call2, a_call3, a_call4, a_rf0, a_rf1, a_rf2, a_rfK_0, a_rfK_1, a_rfK_2, a_end0_0, a_end0_1, a_end0_2, a_end0_3, a_end1, a_put1_0, a_put1_1, a_look, a_lkK_0, a_lkK_1, a_lkK_2, a_ixV, a_ixK_0, a_ixK_1, a_ixK_2, a_lenV, a_truV, a_len_0, a_len_1, a_len_2, a_len_3, a_len_4, a_it, a_rg1, a_rgL, a_en, a_zp, a_itK_0, a_itK_1, a_itK_2, a_itE_0, a_itE_1, a_comp, a_compK_0, a_compK_1, a_isi, a_isO, a_gI_0, a_gI_1, a_gI_2, List.getElem?_cons_zero, List.getElem?_cons_succ, List.set_cons_zero, List.set_cons_succ, Option.bind_some, Option.map_some, f_nil, f_cons, f_some, f_nx, f_ct, f_bk, f_rt, f_ex, a_putV, a_pv0, a_pv1, a_put, a_sp0, a_sp1, a_sp2, a_sp3, a_sp4, a_app, a_sa1, a_sa2, a_aug, a_au1, a_au2, a_au3, gEq_int, gNe_int, ct_rf, ct_own, if_true, if_false, Bool.false_eq_true, a_try, a_tryK_0, a_tryK_1, a_tryK_2, a_tryH_0, a_tryH_1, a_tryK2_0, a_tryK2_1, a_hdS_0, a_hdS_1, a_compX, a_compKX_0, a_fld, a_meth, a_prop, a_propK, a_propE, a_make, a_makeK, a_makeE, a_putF, a_pfK, a_lkv, a_lkvK, a_dct1, a_dct1K, a_dct1K2, a_dct2, a_key, a_putK, a_pk0, a_pk1, a_pk2, a_rg2, a_rg2K, a_rg2K2, a_oL, a_raiseF, a_xr1, a_xr2, a_rgDn, a_xf, a_sortK, a_listK, a_lsK, a_tix, a_tixK, a_isX, a_isxK, a_binV, a_get2, a_g2K, a_ixk, a_ixkK, a_ixkE, a_sl, a_slK0, a_slK1, a_slH, a_slL, a_slE, a_slLst, a_slTup, a_cw, a_tupV, a_tpK, a_cwb, a_ch, a_chK, a_ch1, a_ch2, a_ch2', a_ch3, e_i0]⟩
    rw [filter_yesS, List.nil_append] at q
    exact q
  obtain ⟨f, d1, e1, hd1, hf⟩ := take_nat d0 18 hd0 (by decide) (by decide)
  have e1 : fn__law_take [d0, .int 18] = .ret (.int (f : Int)) [d1] := e1
  have it : ∀ δ, itK1 rg1 (.ok (.int 6) δ) = .ok (rgF 0 6) δ := itF 6 (by decide)
  obtain ⟨δ', ef, d', s4, s5, s6, s7, s8, s9, s10, s11, s12, hd', _, _, _, _, _, _, _, _, _, hδ⟩ := for_turn (A := setV 4) (f := B_law_0) (fun _ δ => Inv37 ns f δ) (rgF 0 6) [.val (.scr ns), .own d1, .val (.lst (ents.map enT)), .val (.int (f : Int)), .un, .un, .un, .un, .un, .un, .un, .un, .un, .un]
    ⟨d1, .un, .un, .un, .un, .un, .un, .un, .un, .un, hd1, .inl rfl, .inl rfl, .inl rfl, .inl rfl, .inl rfl, .inl rfl, .inl rfl, .inl rfl, .inl rfl, rfl⟩ fun pre z δ hz I => by
      obtain ⟨i, hi, rfl⟩ := mem_rgF hz
      exact turn37 ns hf (by simpa using hi) δ I
  subst hδ
  have call0 : ∀ (fn : List D → FO) (δ : DEnv), callK endK [] [] fn (.ok [] δ) = endK [] δ (fn []) := fun _ _ => rfl
  rw [o_law]
  simp -implicitDefEqProofs only [F_law, a_seq, a_expr, a_ret, a_retO, a_set, a_setO, a_if, a_unp, a_for, a_nil, a_retN, a_then_0, a_then_1, a_then_2, a_then_3, a_sK_0, a_sK_1, a_ifS_0, a_ifS_1, a_ifS_2, a_k_0, a_k_1, a_k_2, a_k_3, a_k_4, a_k_5, a_k_6, a_setV, a_setOd, a_setVK_0, a_setVK_1, a_setVK_2, a_setVK_3, a_setVK_4, a_setVK_5, a_c, a_var, a_varK_0, a_varK_1, a_bin, a_binK_0, a_binK_1, a_binK_2, a_binK_3, a_oE_0, a_oE_1, a_un, a_unK_0, a_unK_1, a_unK_2, a_unK_3, a_test, a_tru, a_not, a_asB_0, a_asB_1, a_asB_2, a_asB_3, a_lst_0, a_lst_1, a_and, a_or, a_andK_0, a_andK_1, a_andK_2, a_andK_3, a_andK_4, a_andK_5, a_dIf, a_tand, a_tor, a_tnot, a_ifK_0, a_ifK_1, a_ifK_2, a_ifK_3, a_ifK_4, a_cons, a_consK_0, a_consK_1, a_consK_2, a_consK_3, a_consK_4, a_refA, a_refK_0, a_refK_1, a_refK_2, a_cb, a_tup, a_dLst, a_vals0, a_vals1, a_vals2, a_vals3, a_vals4, call_eq, callO_eq, a_call1, a_call2, a_call3, a_call4, a_rf0, a_rf1, a_rf2, a_rfK_0, a_rfK_1, a_rfK_2, a_end0_0, a_end0_1, a_end0_2, a_end0_3, a_end1, a_put1_0, a_put1_1, a_look, a_lkK_0, a_lkK_1, a_lkK_2, a_ixV, a_ixK_0, a_ixK_1, a_ixK_2, a_lenV, a_truV, a_len_0, a_len_1, a_len_2, a_len_3, a_len_4, a_it, a_rg1, a_rgL, a_en, a_zp, a_itK_0, a_itK_1, a_itK_2, a_itE_0, a_itE_1, a_comp, a_compK_0, a_compK_1, a_isi, a_isO, a_gI_0, a_gI_1, a_gI_2, List.getElem?_cons_zero, List.getElem?_cons_succ, List.set_cons_zero, List.set_cons_succ, Option.bind_some, Option.map_some, f_nil, f_cons, f_some, f_nx, f_ct, f_bk, f_rt, f_ex, a_putV, a_pv0, a_pv1, a_put, a_sp0, a_sp1, a_sp2, a_sp3, a_sp4, a_app, a_sa1, a_sa2, a_aug, a_au1, a_au2, a_au3, gEq_int, gNe_int, ct_rf, ct_own, if_true, if_false, Bool.false_eq_true, a_try, a_tryK_0, a_tryK_1, a_tryK_2, a_tryH_0, a_tryH_1, a_tryK2_0, a_tryK2_1, a_hdS_0, a_hdS_1, a_compX, a_compKX_0, a_fld, a_meth, a_prop, a_propK, a_propE, a_make, a_makeK, a_makeE, a_putF, a_pfK, a_lkv, a_lkvK, a_dct1, a_dct1K, a_dct1K2, a_dct2, a_key, a_putK, a_pk0, a_pk1, a_pk2, a_rg2, a_rg2K, a_rg2K2, a_oL, a_raiseF, a_xr1, a_xr2, a_rgDn, a_xf, a_sortK, a_listK, a_lsK, a_tix, a_tixK, a_isX, a_isxK, a_binV, a_get2, a_g2K, a_ixk, a_ixkK, a_ixkE, a_sl, a_slK0, a_slK1, a_slH, a_slL, a_slE, a_slLst, a_slTup, a_cw, a_tupV, a_tpK, a_cwb, a_ch, a_chK, a_ch1, a_ch2, a_ch2', a_ch3, e0, call0, tb, rn, it_lst, c, tup_of, nx, Bool.not_true, e1, it, ef]
  rfl
end LW

set_option maxHeartbeats 0
namespace LW
open PySem PySem.Spec PyProof.Rows L2 DL
theorem facts {P : Program} {w : World} {K : PySem.W.Frag} {h : Heap} {mg : Str → Option Value} {f : Addr} (main : ∀ ns : List Int, ns.length ≤ 63 → fn_law [.scr ns] = .ret (.bl true) []) (X : K.In h) (G : h.Ns mainGlobals mg) (hfa : mg ("law" : Str) = some (.ref f)) (cy : SaysY fa fn exs tabs w K) :
    ∃ fd : FuncData, (∀ (s : Shared) (v : Value), BindsTo s fd ⟨[v], []⟩ [("_law_script", v)]) ∧ ∀ base : Heap, K.In base → base.Ns mainGlobals mg → FnOk P w K mg base (L2.CX P w) 16 f fd ["_law_script"] (spTrue K) := by
  have c := cy.z
  have T : Ft P w K mg ⟨fun x => some (He.ga K x), P, w⟩ := by
    refine ⟨?_, ?_, ?_, ?_, ?_, ?_, ?_, ?_, ?_, ?_, ?_, ?_, ?_, ?_, ?_, ?_, ?_, ?_, ?_, ?_, ?_, ?_, ?_, ?_, ?_, ?_, ?_, ?_, ?_, ?_, ?_, ?_, ?_, ?_, ?_, ?_, ?_, ?_, ?_, ?_, ?_, ?_⟩
    · rfl
    · rfl
    · exact He.free_ok X G (c.a.fact 0 (f := .free "abs") rfl)
    · exact He.free_ok X G (c.a.fact 1 (f := .free "bool") rfl)
    · exact He.free_ok X G (c.a.fact 2 (f := .free "dict") rfl)
    · exact He.free_ok X G (c.a.fact 3 (f := .free "int") rfl)
    · exact He.free_ok X G (c.a.fact 4 (f := .free "isinstance") rfl)
    · exact He.free_ok X G (c.a.fact 5 (f := .free "len") rfl)
    · exact He.free_ok X G (c.a.fact 6 (f := .free "list") rfl)
    · exact He.free_ok X G (c.a.fact 7 (f := .free "range") rfl)
    · exact He.free_ok X G (c.a.fact 8 (f := .free "str") rfl)
    · exact He.free_ok X G (c.a.fact 9 (f := .free "tuple") rfl)
    · exact He.free_ok X G (c.a.fact 10 (f := .free "zip") rfl)
    · exact ⟨_, He.glo_ok X G (c.a.fact 11 (f := .glo "LETTERS") rfl), ktp_of (c.ex 0 (t := (fun K => ktpB K (He.ga K "LETTERS") ["r", "s", "t"])) rfl)⟩
    · exact ⟨_, He.glo_ok X G (c.a.fact 12 (f := .glo "REWRITINGS") rfl), cy.tab 0, (c.ex 1 (t := (fun K => ktdB K (He.ga K "REWRITINGS") kvd_REWRITINGS)) rfl)⟩
    · exact excC_of X G (c.a.fact 13 (f := .glo "CheckerError") rfl) (c.a.fact 14 (f := .exc "CheckerError") rfl)
    · exact ⟨_, rfl, He.glo_ok X G (c.a.fact 15 (f := .glo "BadRewriting") rfl)⟩
    · exact ⟨_, rfl, He.glo_ok X G (c.a.fact 13 (f := .glo "CheckerError") rfl)⟩
    · obtain ⟨fd, F⟩ := c.a.def_ 21 (d := d_x_BadRewriting) rfl
      exact ⟨_, _, fd, rfl, He.glo_ok X G (c.a.fact 15 (f := .glo "BadRewriting") rfl), oexB_ok (c.ex 2 (t := (fun K => oexB K (He.ga K "BadRewriting"))) rfl), xin_ok (c.ex 3 (t := (fun K => xinB K (He.ga K "BadRewriting"))) rfl), xty_ok (c.ex 4 (t := (fun K => xtyB K (He.ga K "BadRewriting"))) rfl), He.noat_ok (c.a.fact 16 (f := .noat "BadRewriting" "what") rfl), F⟩
    · intro cn A h1 h2
      cases h2
      have hm := tab_mem h1
      simp only [tabL, List.cons_append, List.nil_append, List.mem_cons, List.not_mem_nil, or_false, Prod.mk.injEq] at hm
      rcases hm with ⟨rfl, w2, w3⟩ | ⟨rfl, w2, w3⟩ | ⟨rfl, w2, w3⟩ | ⟨rfl, w2, w3⟩
      · exact absurd w2 (by decide)
      · exact absurd w3 (by decide)
      · exact absurd w2 (by decide)
      · exact ⟨xfB_ok (c.ex 5 (t := (fun K => xfB K (He.ga K "BadRewriting"))) rfl), He.noat_ok (c.a.fact 16 (f := .noat "BadRewriting" "what") rfl)⟩
    · refine tab_ok fun p hp => ?_
      simp only [tabL, List.cons_append, List.nil_append, List.mem_cons, List.not_mem_nil, or_false] at hp
      rcases hp with rfl | rfl | rfl | rfl
      · exact ⟨_, _, rfl, rfl, He.exm_ok (c.a.fact 17 (f := .exm "CheckerError" "CheckerError" true) rfl)⟩
      · exact ⟨_, _, rfl, rfl, He.exm_ok (c.a.fact 18 (f := .exm "CheckerError" "BadRewriting" false) rfl)⟩
      · exact ⟨_, _, rfl, rfl, He.exm_ok (c.a.fact 19 (f := .exm "BadRewriting" "CheckerError" true) rfl)⟩
      · exact ⟨_, _, rfl, rfl, He.exm_ok (c.a.fact 20 (f := .exm "BadRewriting" "BadRewriting" true) rfl)⟩
    · obtain ⟨fd, F⟩ := c.a.def_ 0 (d := d_is_sequence) rfl
      exact ⟨_, fd, F, He.glo_ok X G (c.a.fact 21 (f := .glo "is_sequence") rfl)⟩
    · obtain ⟨fd, F⟩ := c.a.def_ 1 (d := d_rewriting_names) rfl
      exact ⟨_, fd, F, He.glo_ok X G (c.a.fact 22 (f := .glo "rewriting_names") rfl)⟩
    · obtain ⟨fd, F⟩ := c.a.def_ 2 (d := d__is_rewriting) rfl
      exact ⟨_, fd, F, He.glo_ok X G (c.a.fact 23 (f := .glo "_is_rewriting") rfl)⟩
    · obtain ⟨fd, F⟩ := c.a.def_ 3 (d := d__rewriting_of) rfl
      exact ⟨_, fd, F, He.glo_ok X G (c.a.fact 24 (f := .glo "_rewriting_of") rfl)⟩
    · obtain ⟨fd, F⟩ := c.a.def_ 4 (d := d_verdict_of) rfl
      exact ⟨_, fd, F, He.glo_ok X G (c.a.fact 25 (f := .glo "verdict_of") rfl)⟩
    · obtain ⟨fd, F⟩ := c.a.def_ 5 (d := d_letters_of) rfl
      exact ⟨_, fd, F, He.glo_ok X G (c.a.fact 26 (f := .glo "letters_of") rfl)⟩
    · obtain ⟨fd, F⟩ := c.a.def_ 6 (d := d__filled) rfl
      exact ⟨_, fd, F, He.glo_ok X G (c.a.fact 27 (f := .glo "_filled") rfl)⟩
    · obtain ⟨fd, F⟩ := c.a.def_ 7 (d := d_rewriting_pair) rfl
      exact ⟨_, fd, F, He.glo_ok X G (c.a.fact 28 (f := .glo "rewriting_pair") rfl)⟩
    · obtain ⟨fd, F⟩ := c.a.def_ 8 (d := d__law_hand) rfl
      exact ⟨_, fd, F, He.glo_ok X G (c.a.fact 29 (f := .glo "_law_hand") rfl)⟩
    · obtain ⟨fd, F⟩ := c.a.def_ 9 (d := d__law_mixed) rfl
      exact ⟨_, fd, F, He.glo_ok X G (c.a.fact 30 (f := .glo "_law_mixed") rfl)⟩
    · obtain ⟨fd, F⟩ := c.a.def_ 10 (d := d__law_take) rfl
      exact ⟨_, fd, F, He.glo_ok X G (c.a.fact 31 (f := .glo "_law_take") rfl)⟩
    · obtain ⟨fd, F⟩ := c.a.def_ 11 (d := d__law_names) rfl
      exact ⟨_, fd, F, He.glo_ok X G (c.a.fact 32 (f := .glo "_law_names") rfl)⟩
    · obtain ⟨fd, F⟩ := c.a.def_ 12 (d := d__law_program) rfl
      exact ⟨_, fd, F, He.glo_ok X G (c.a.fact 33 (f := .glo "_law_program") rfl)⟩
    · obtain ⟨fd, F⟩ := c.a.def_ 13 (d := d__law_list) rfl
      exact ⟨_, fd, F, He.glo_ok X G (c.a.fact 34 (f := .glo "_law_list") rfl)⟩
    · obtain ⟨fd, F⟩ := c.a.def_ 14 (d := d__law_int) rfl
      exact ⟨_, fd, F, He.glo_ok X G (c.a.fact 35 (f := .glo "_law_int") rfl)⟩
    · obtain ⟨fd, F⟩ := c.a.def_ 15 (d := d__law_exact) rfl
      exact ⟨_, fd, F, He.glo_ok X G (c.a.fact 36 (f := .glo "_law_exact") rfl)⟩
    · obtain ⟨fd, F⟩ := c.a.def_ 16 (d := d__law_table) rfl
      exact ⟨_, fd, F, He.glo_ok X G (c.a.fact 37 (f := .glo "_law_table") rfl)⟩
    · obtain ⟨fd, F⟩ := c.a.def_ 17 (d := d__law_put) rfl
      exact ⟨_, fd, F, He.glo_ok X G (c.a.fact 38 (f := .glo "_law_put") rfl)⟩
    · obtain ⟨fd, F⟩ := c.a.def_ 18 (d := d__law_letters) rfl
      exact ⟨_, fd, F, He.glo_ok X G (c.a.fact 39 (f := .glo "_law_letters") rfl)⟩
    · obtain ⟨fd, F⟩ := c.a.def_ 19 (d := d__law_word) rfl
      exact ⟨_, fd, F, He.glo_ok X G (c.a.fact 40 (f := .glo "_law_word") rfl)⟩
    · obtain ⟨fd, F⟩ := c.a.def_ 20 (d := d_law) rfl
      exact ⟨_, fd, F, He.glo_ok X G (c.a.fact 41 (f := .glo "law") rfl)⟩
  obtain ⟨fd, F⟩ := c.a.def_ 20 (d := d_law) rfl
  have e := hfa.symm.trans (He.glo_ok X G (c.a.fact 41 (f := .glo "law") rfl))
  cases e
  have b := FunD.bindsA (ps := ["_law_script"]) F fun _ _ _ _ _ _ us hl => match us, hl with | [_], _ => rfl
  exact ⟨fd, fun s v => b s [v] rfl, fun base _ _ => law_true (ok_law T F) main⟩
end LW
open PySem PySem.W PySem.Calls PyProof.Rows
theorem LW.ends (main : ∀ ns : List Int, ns.length ≤ 63 → LW.fn_law [.scr ns] = .ret (.bl true) []) : PySem.Challenge.rw_truealarms_k37_whole_rewritings_told_and.Holds := by
  w_on; o_law
  refine HandSHeadRun.head_any (r := OpenLaw.row PySem.Challenge.rw_truealarms_k37_whole_rewritings_told_and) (q := view (OpenLaw.row PySem.Challenge.rw_truealarms_k37_whole_rewritings_told_and).prog [28]) (H := LW.hk) (ob := LW.ob) (M := 2400) (loose := LW.loose) (d := HandSHeadRun.topDef (OpenLaw.row PySem.Challenge.rw_truealarms_k37_whole_rewritings_told_and).prog 28) (kwd := []) LW.ob_eq
    (by kernel_rfl) (fun s => by kernel_rfl) LW.run (by kernel_rfl) (by kernel_rfl) (by kernel_rfl) (by rfl) (by first | assumption | decide +kernel) (by decide +kernel) ⟨rfl, rfl, rfl, rfl, rfl, by decide +kernel⟩ ?hw ?hc
  case hw => w_witness2
  case hc =>
    refine DL.end_ofW (l := PySem.Challenge.rw_truealarms_k37_whole_rewritings_told_and) (k := 16) (x := "_law_script") rfl (by kernel_rfl) ⟨rfl, by decide, by decide⟩ fun w mg fa h Y G hmg0 => ?_
    obtain ⟨K, KX, c⟩ := Y
    have hmg : mg ("law" : PySem.Str) = some (.ref fa) := by
      have e : (HandSHeadRun.topDef (OpenLaw.row PySem.Challenge.rw_truealarms_k37_whole_rewritings_told_and).prog 28).name = ("law" : PySem.Str) := by kernel_rfl
      rw [← e]
      exact hmg0
    obtain ⟨fd, hb, hF⟩ := LW.facts (P := (PySem.Challenge.rw_truealarms_k37_whole_rewritings_told_and).prog) (w := w) main KX G hmg c
    exact ⟨K, fd, KX, hb, hF⟩

theorem PySem.Challenge.cw_truealarms_k37_whole_rewritings_told_and_holds : PySem.Challenge.rw_truealarms_k37_whole_rewritings_told_and.Holds := by
  exact LW.ends LW.main
