import PyProof.Rows.All
import Wide.All
import OpenK.AllK
import Wide.FinOn
import HandS.ForMost
import HandS.Exc
import HandS.ExcOwn
import HandS.TryOnly
import HandS.TryMany
import HandS.WordsExc
import HandS.Wide
import HandS.IsInst
import HandS.Conv
import HandS.Flow
import HandS.Style
import HandS.Deep
import HandS.TupAny
import HandS.TupLe
import HandS.Zip
import HandS.Strs
import HandS.Small
import HandS.Defaults
import KE.GoesEnum
import HandS.Head0
import HandS.Head1
import HandS.Head2
import HandS.HeadEnd
import HandS.HeadHook1
import HandS.HeadHook2
import HandS.Property
import HandS.HeadHook4
import HandS.SetFor
import HandS.SortInts
import KE.KDictList
import HandS.HeadNt
import PySem.Challenge.RW_truealarms_k19_whole_sharp_lots_by_back
set_option Elab.async false
set_option linter.all false
set_option maxRecDepth 100000
set_option maxHeartbeats 4000000
namespace DL
open PySem PySem.Spec PyProof.Rows L2

/-! ### deep values -/
inductive D where
  | non | bl (b : Bool) | int (i : Int) | str (x : Str)
  | lst (xs : List D) | tup (xs : List D)
  | dct (ks : List Key) (vs : List D)
  | ins (c : Str) (ns : List Str) (vs : List D)
  | scr (ns : List Int)
  | set (xs : List Int)

/-- a set of ints at a: S its members -/
def SetI (P : Program) (w : World) (a : Addr) (S : Int → Bool) (n : Nat) : HO := .ext fun h => h.SetOf (intKind P w) a S n
/-- where the classes stand by name, the program and the world -/
structure Cw where
  f : Str → Option Addr
  P : Program
  w : World
instance : CoeFun Cw (fun _ => Str → Option Addr) := ⟨Cw.f⟩

mutual
inductive Rep (K : PySem.W.Frag) (cl : Cw) (G : Hp) : V → D → Prop
  | non : Rep K cl G .non .non
  | bl (b : Bool) : Rep K cl G (.bl b) (.bl b)
  | int (i : Int) : Rep K cl G (.int i) (.int i)
  | str (x : Str) : Rep K cl G (.str x) (.str x)
  | lst {a : Addr} {xs : List V} {ds : List D} : G a = some (.lst xs) → RepL K cl G xs ds → Rep K cl G (.ref a) (.lst ds)
  | tup {a : Addr} {xs : List V} {ds : List D} : G a = some (.tup xs) → RepL K cl G xs ds → Rep K cl G (.ref a) (.tup ds)
  | dct {a : Addr} {ks : List Key} {xs : List V} {ds : List D} : G a = some (.dK (ks.zip xs)) → ks.length = xs.length → RepL K cl G xs ds → Rep K cl G (.ref a) (.dct ks ds)
  | ins {a C dx : Addr} {c : Str} {ns : List Str} {xs : List V} {ds : List D} : G a = some (.ins C dx (ns.zip xs)) → ns.length = xs.length → cl c = some C → RepL K cl G xs ds → Rep K cl G (.ref a) (.ins c ns ds)
  | scr {a : Addr} {ns : List Int} : SqL K G a (ns.map V.int) → Rep K cl G (.ref a) (.scr ns)
  | set {a : Addr} {xs : List Int} {S : Int → Bool} {n : Nat} : G a = some (SetI cl.P cl.w a S n) → (∀ k, S k = decide (k ∈ xs)) → Rep K cl G (.ref a) (.set xs)
inductive RepL (K : PySem.W.Frag) (cl : Cw) (G : Hp) : List V → List D → Prop
  | nil : RepL K cl G [] []
  | cons {v : V} {vs : List V} {d : D} {ds : List D} : Rep K cl G v d → RepL K cl G vs ds → RepL K cl G (v :: vs) (d :: ds)
end

def Sub (G G' : Hp) : Prop := ∀ b o, G b = some o → G' b = some o
theorem Sub.refl (G : Hp) : Sub G G := fun _ _ h => h
theorem Sub.trans {A B C : Hp} (a : Sub A B) (b : Sub B C) : Sub A C := fun c o h => b c o (a c o h)
theorem Sub.rd {G G' : Hp} (s : Sub G G') {a : Addr} {u : HO} (h : Rd G a u) : Rd G' a u := by
  rcases h with h | ⟨o, h⟩
  · exact .inl (s _ _ h)
  · exact .inr ⟨o, s _ _ h⟩
theorem Sub.sqL {K : PySem.W.Frag} {G G' : Hp} (s : Sub G G') {a : Addr} {xs : List V} (h : SqL K G a xs) : SqL K G' a xs := by
  rcases h with h | h
  · exact .inl (s.rd h)
  · exact .inr h
theorem Sub.sqT {K : PySem.W.Frag} {G G' : Hp} (s : Sub G G') {a : Addr} {xs : List V} (h : SqT K G a xs) : SqT K G' a xs := by
  rcases h with h | h
  · exact .inl (s.rd h)
  · exact .inr h
mutual
theorem Rep.mono {K : PySem.W.Frag} {cl : Cw} {G G' : Hp} (s : Sub G G') : ∀ {d : D} {v : V}, Rep K cl G v d → Rep K cl G' v d
  | .non, _, h => by cases h; exact .non
  | .bl b, _, h => by cases h; exact .bl b
  | .int i, _, h => by cases h; exact .int i
  | .str x, _, h => by cases h; exact .str x
  | .lst ds, _, h => by
    cases h with
    | lst h1 h2 => exact .lst (s _ _ h1) (RepL.mono s h2)
  | .tup ds, _, h => by
    cases h with
    | tup h1 h2 => exact .tup (s _ _ h1) (RepL.mono s h2)
  | .dct ks ds, _, h => by
    cases h with
    | dct h1 hl h2 => exact .dct (s _ _ h1) hl (RepL.mono s h2)
  | .ins c ns ds, _, h => by
    cases h with
    | ins h1 hl hc h2 => exact .ins (s _ _ h1) hl hc (RepL.mono s h2)
  | .scr ns, _, h => by
    cases h with
    | scr h1 => exact .scr (s.sqL h1)
  | .set xs, _, h => by
    cases h with
    | set h1 h2 => exact .set (s _ _ h1) h2
theorem RepL.mono {K : PySem.W.Frag} {cl : Cw} {G G' : Hp} (s : Sub G G') : ∀ {ds : List D} {vs : List V}, RepL K cl G vs ds → RepL K cl G' vs ds
  | [], _, h => by cases h; exact .nil
  | d :: ds, _, h => by
    cases h with
    | cons h1 h2 => exact .cons (Rep.mono s h1) (RepL.mono s h2)
end
section
variable {K : PySem.W.Frag} {cl : Cw} {G : Hp}
theorem RepL.length : ∀ {ds : List D} {vs : List V}, RepL K cl G vs ds → vs.length = ds.length
  | [], _, h => by cases h; rfl
  | d :: ds, _, h => by
    cases h with
    | cons h1 h2 => exact congrArg (· + 1) h2.length
theorem RepL.get : ∀ {ds : List D} {vs : List V}, RepL K cl G vs ds → ∀ {i : Nat} {d : D}, ds[i]? = some d → ∃ v, vs[i]? = some v ∧ Rep K cl G v d
  | [], _, h, i, d, e => by simp at e
  | d :: ds, _, h, i, e, q => by
    cases h with
    | cons h1 h2 =>
      cases i with
      | zero =>
        have z : d = e := by simpa using q
        subst z
        exact ⟨_, rfl, h1⟩
      | succ i => exact h2.get (i := i) (by simpa using q)
theorem RepL.append : ∀ {ds es : List D} {vs us : List V}, RepL K cl G vs ds → RepL K cl G us es → RepL K cl G (vs ++ us) (ds ++ es)
  | [], _, _, _, h, h' => by cases h; exact h'
  | d :: ds, _, _, _, h, h' => by
    cases h with
    | cons h1 h2 => exact .cons h1 (h2.append h')
theorem RepL.set : ∀ {ds : List D} {vs : List V}, RepL K cl G vs ds → ∀ {v : V} {d : D} (i : Nat), Rep K cl G v d → RepL K cl G (vs.set i v) (ds.set i d)
  | [], _, h, v, d, i, r => by cases h; exact .nil
  | e :: ds, _, h, v, d, i, r => by
    cases h with
    | cons h1 h2 =>
      cases i with
      | zero => exact .cons r h2
      | succ i => exact .cons h1 (h2.set i r)
theorem RepL.take : ∀ {ds : List D} {vs : List V}, RepL K cl G vs ds → ∀ (n : Nat), RepL K cl G (vs.take n) (ds.take n)
  | [], _, h, n => by cases h; simp only [List.take_nil]; exact .nil
  | e :: ds, _, h, n => by
    cases h with
    | cons h1 h2 =>
      cases n with
      | zero => exact .nil
      | succ n => exact .cons h1 (h2.take n)
theorem RepL.drop : ∀ {ds : List D} {vs : List V}, RepL K cl G vs ds → ∀ (n : Nat), RepL K cl G (vs.drop n) (ds.drop n)
  | [], _, h, n => by cases h; simp only [List.drop_nil]; exact .nil
  | e :: ds, _, h, n => by
    cases h with
    | cons h1 h2 =>
      cases n with
      | zero => exact .cons h1 h2
      | succ n => exact h2.drop n
theorem RepL.ints : ∀ {ns : List Int} {vs : List V}, RepL K cl G vs (ns.map D.int) → vs = ns.map V.int
  | [], _, h => by cases h; rfl
  | n :: ns, _, h => by
    cases h with
    | cons h1 h2 =>
      cases h1
      rw [RepL.ints h2]; rfl
theorem RepL.of_ints : ∀ (ns : List Int), RepL K cl G (ns.map V.int) (ns.map D.int)
  | [] => .nil
  | n :: ns => .cons (.int n) (RepL.of_ints ns)
end

/-! ### slots -/
inductive Sl where
  | un | val (d : D) | own (d : D) | rf (d : D) | exc (c : Str) (ns : List Str) (ds : List D)
abbrev DEnv := List Sl

/-- what an owned object at a holds -/
def Own (K : PySem.W.Frag) (cl : Cw) (H G : Hp) (a : Addr) : D → Prop
  | .lst ds => ∃ xs, H a = some (.lst xs) ∧ RepL K cl G xs ds
  | .dct ks ds => ∃ xs, H a = some (.dK (ks.zip xs)) ∧ ks.length = xs.length ∧ RepL K cl G xs ds
  | .ins c ns ds => ∃ C dx xs, H a = some (.ins C dx (ns.zip xs)) ∧ ns.length = xs.length ∧ cl c = some C ∧ RepL K cl G xs ds
  | _ => False
theorem Own.ex {K : PySem.W.Frag} {cl : Cw} {H G : Hp} {a : Addr} {d : D} (h : Own K cl H G a d) : ∃ o, H a = some o := by
  cases d with
  | lst ds => obtain ⟨xs, e, _⟩ := h; exact ⟨_, e⟩
  | dct ks ds => obtain ⟨xs, e, _⟩ := h; exact ⟨_, e⟩
  | ins c ns ds => obtain ⟨C, dx, xs, e, _⟩ := h; exact ⟨_, e⟩
  | _ => exact h.elim
theorem Own.mono {K : PySem.W.Frag} {cl : Cw} {H H' G G' : Hp} {a : Addr} {d : D} (h : Own K cl H G a d) (s : Sub G G') (e : ∀ o, H a = some o → H' a = some o) : Own K cl H' G' a d := by
  cases d with
  | lst ds => obtain ⟨xs, q, r⟩ := h; exact ⟨xs, e _ q, r.mono s⟩
  | dct ks ds => obtain ⟨xs, q, l, r⟩ := h; exact ⟨xs, e _ q, l, r.mono s⟩
  | ins c ns ds => obtain ⟨C, dx, xs, q, l, c, r⟩ := h; exact ⟨C, dx, xs, e _ q, l, c, r.mono s⟩
  | _ => exact h.elim

/-- what a slot says: hx is the exception at hand (its address, its own dict) -/
def SlOk (K : PySem.W.Frag) (cl : Cw) (hx : Addr × Option Addr) (H0 H G : Hp) (x : Option V) : Sl → Prop
  | .un => True
  | .val d => ∃ v, x = some v ∧ Rep K cl G v d
  | .own d => ∃ a, x = some (.ref a) ∧ G a = none ∧ H0 a = none ∧ Own K cl H G a d
  | .rf d => ∃ a, x = some (.ref a) ∧ G a = none ∧ Own K cl H G a d
  | .exc c ns ds => x = some (.ref hx.1) ∧ ∃ dd xs vs, hx.2 = some dd ∧ G dd = some (.xd xs) ∧ RepL K cl G vs ds ∧ ns.length = vs.length ∧ ∀ n v, (n, v) ∈ ns.zip vs → xs.lookup n = some v
def isO : Sl → Bool
  | .own _ => true
  | .rf _ => true
  | _ => false

/-- the state: R the by-reference parameters (slot, address), H0 G0 the entry -/
structure Ok (K : PySem.W.Frag) (cl : Cw) (hx : Addr × Option Addr) (R : List (Nat × Addr)) (H0 G0 H G : Hp) (σ : L2.St) (δ : DEnv) : Prop where
  len : σ.length = δ.length
  sub : Sub G H
  ext : Sub G0 G
  new : ∀ b o, G b = some o → G0 b = some o ∨ H0 b = none
  kept : ∀ b o, H0 b = some o → (∀ p ∈ R, p.2 ≠ b) → H b = some o
  rfree : ∀ p ∈ R, H0 p.2 ≠ none ∧ G p.2 = none
  sl : ∀ (i : Nat) (s : Sl) (x : Option V), δ[i]? = some s → σ[i]? = some x → SlOk K cl hx H0 H G x s
  sep : ∀ (i j : Nat) (s t : Sl) (a : Addr), δ[i]? = some s → δ[j]? = some t → isO s = true → isO t = true → σ[i]? = some (some (.ref a)) → σ[j]? = some (some (.ref a)) → i = j
  refs : ∀ p ∈ R, ∃ d, δ[p.1]? = some (.rf d) ∧ σ[p.1]? = some (some (.ref p.2))
  rfs : ∀ (i : Nat) (d : D), δ[i]? = some (.rf d) → ∃ p ∈ R, p.1 = i

/-- new objects alone: nothing that is tracked changes -/
structure Grow (H G H' G' : Hp) : Prop where
  hk : Sub H H'
  gk : Sub G G'
  sub : Sub G' H'
  gn : ∀ b o, G' b = some o → G b = some o ∨ H b = none
theorem Grow.refl {H G : Hp} (s : Sub G H) : Grow H G H G := ⟨.refl H, .refl G, s, fun _ _ h => .inl h⟩
theorem Grow.trans {H G H1 G1 H2 G2 : Hp} (a : Grow H G H1 G1) (b : Grow H1 G1 H2 G2) : Grow H G H2 G2 := by
  refine ⟨a.hk.trans b.hk, a.gk.trans b.gk, b.sub, fun c o h => ?_⟩
  rcases b.gn c o h with h | h
  · exact a.gn c o h
  · refine .inr ?_
    cases e : H c with
    | none => rfl
    | some u => rw [a.hk c u e] at h; cases h
/-- a new frozen object -/
theorem Grow.froze {H G : Hp} (s : Sub G H) {p : Addr} (np : H p = none) (o : HO) : Grow H G (upd H p o) (upd G p o) := by
  have ng : G p = none := by
    cases e : G p with
    | none => rfl
    | some u => rw [s p u e] at np; cases np
  refine ⟨fun b u e => by rw [upd_ne (ne_of_none e np)]; exact e, fun b u e => by rw [upd_ne (ne_of_none e ng)]; exact e, fun b u e => ?_, fun b u e => ?_⟩
  · by_cases h : b = p
    · subst h; rw [upd_same] at e ⊢; exact e
    · rw [upd_ne h] at e ⊢; exact s b u e
  · by_cases h : b = p
    · subst h; exact .inr np
    · rw [upd_ne h] at e; exact .inl e
/-- a new object that is not frozen -/
theorem Grow.fresh {H G : Hp} (s : Sub G H) {p : Addr} (np : H p = none) (o : HO) : Grow H G (upd H p o) G :=
  ⟨fun b u e => by rw [upd_ne (ne_of_none e np)]; exact e, .refl G, fun b u e => by rw [upd_ne (ne_of_none (s b u e) np)]; exact s b u e, fun b u e => .inl e⟩

section
variable {K : PySem.W.Frag} {cl : Cw} {hx : Addr × Option Addr} {R : List (Nat × Addr)} {H0 G0 H G H' G' : Hp} {σ : L2.St} {δ : DEnv}
theorem SlOk.ex {x : Option V} {s : Sl} (h : SlOk K cl hx H0 H G x s) (o : isO s = true) : ∃ a d, x = some (.ref a) ∧ G a = none ∧ Own K cl H G a d ∧ (s = .own d ∨ s = .rf d) := by
  cases s with
  | own d => obtain ⟨a, e, g, _, w⟩ := h; exact ⟨a, d, e, g, w, .inl rfl⟩
  | rf d => obtain ⟨a, e, g, w⟩ := h; exact ⟨a, d, e, g, w, .inr rfl⟩
  | un => cases o
  | val d => cases o
  | exc c ns ds => cases o
theorem SlOk.grow {x : Option V} {s : Sl} (h : SlOk K cl hx H0 H G x s) (g : Grow H G H' G') : SlOk K cl hx H0 H' G' x s := by
  have keep : ∀ {a d}, G a = none → Own K cl H G a d → G' a = none := fun {a d} ga w => by
    obtain ⟨o, ho⟩ := w.ex
    cases e : G' a with
    | none => rfl
    | some u =>
      rcases g.gn a u e with z | z
      · rw [ga] at z; cases z
      · rw [ho] at z; cases z
  cases s with
  | un => trivial
  | val d => obtain ⟨v, e, r⟩ := h; exact ⟨v, e, r.mono g.gk⟩
  | own d => obtain ⟨a, e, ga, h0, w⟩ := h; exact ⟨a, e, keep ga w, h0, w.mono g.gk fun o => g.hk a o⟩
  | rf d => obtain ⟨a, e, ga, w⟩ := h; exact ⟨a, e, keep ga w, w.mono g.gk fun o => g.hk a o⟩
  | exc c ns ds => obtain ⟨e, dd, xs, vs, e1, e2, e3, e4⟩ := h; exact ⟨e, dd, xs, vs, e1, g.gk _ _ e2, e3.mono g.gk, e4⟩
theorem Ok.grow (k : Ok K cl hx R H0 G0 H G σ δ) (g : Grow H G H' G') : Ok K cl hx R H0 G0 H' G' σ δ where
  len := k.len
  sub := g.sub
  ext := k.ext.trans g.gk
  new := fun b o e => by
    rcases g.gn b o e with z | z
    · exact k.new b o z
    · by_cases hb : ∃ p ∈ R, p.2 = b
      · obtain ⟨p, hp, rfl⟩ := hb
        obtain ⟨d, e1, e2⟩ := k.refs p hp
        obtain ⟨a, q, _, w⟩ := k.sl _ _ _ e1 e2
        cases q
        obtain ⟨u, hu⟩ := w.ex
        rw [z] at hu; cases hu
      · refine .inr ?_
        cases q : H0 b with
        | none => rfl
        | some u =>
          have := k.kept b u q fun p hp e => hb ⟨p, hp, e⟩
          rw [z] at this; cases this
  kept := fun b o e hR => g.hk b o (k.kept b o e hR)
  rfree := fun p hp => by
    refine ⟨(k.rfree p hp).1, ?_⟩
    obtain ⟨d, e1, e2⟩ := k.refs p hp
    obtain ⟨a, q, ga, w⟩ := (k.sl _ _ _ e1 e2).grow g
    cases q
    exact ga
  sl := fun i s x e1 e2 => (k.sl i s x e1 e2).grow g
  sep := k.sep
  refs := k.refs
  rfs := k.rfs
end
end DL

set_option maxRecDepth 100000
set_option maxHeartbeats 4000000
namespace DL
open PySem PySem.Spec PyProof.Rows L2

/-! ### outcomes -/
inductive EO (α : Type) where
  | ok (a : α) (δ : DEnv) | ex (c : Str) (ns : List Str) (ds : List D) (δ : DEnv) | st
def EO.bind {α β : Type} (o : EO α) (k : α → DEnv → EO β) : EO β := match o with
  | .ok a δ => k a δ
  | .ex c ns ds δ => .ex c ns ds δ
  | .st => .st
abbrev DE := DEnv → EO D
abbrev DT := DEnv → EO Bool
inductive AV where
  | v (d : D) | r (j : Nat)
abbrev DA := DEnv → EO (List AV)
inductive SO where
  | nx (δ : DEnv) | rt (d : D) (δ : DEnv) | ro (d : D) (δ : DEnv) | bk (δ : DEnv) | ct (δ : DEnv) | ex (c : Str) (ns : List Str) (ds : List D) (δ : DEnv) | st
abbrev DS := DEnv → SO

/-- an exception of the class named c with these fields -/
def XOk (K : PySem.W.Frag) (cl : Cw) (G : Hp) (c : Str) (ns : List Str) (ds : List D) (cls : Value) (dd : Option Addr) : Prop :=
  ∃ C, cls = .ref C ∧ cl c = some C ∧ ((ns = [] ∧ ds = []) ∨ ∃ dx xs vs, dd = some dx ∧ G dx = some (.xd xs) ∧ RepL K cl G vs ds ∧ ns.length = vs.length ∧ ∀ n v, (n, v) ∈ ns.zip vs → xs.lookup n = some v)
theorem XOk.mono {K : PySem.W.Frag} {cl : Cw} {G G' : Hp} {c : Str} {ns : List Str} {ds : List D} {cls : Value} {dd : Option Addr} (h : XOk K cl G c ns ds cls dd) (s : Sub G G') : XOk K cl G' c ns ds cls dd := by
  obtain ⟨C, e, q, h⟩ := h
  refine ⟨C, e, q, ?_⟩
  rcases h with h | ⟨dx, xs, vs, e1, e2, e3, e4, e5⟩
  · exact .inl h
  · exact .inr ⟨dx, xs, vs, e1, s _ _ e2, e3.mono s, e4, e5⟩

/-- the fixed part of a state -/
structure Fx where
  K : PySem.W.Frag
  cl : Cw
  hx : Addr × Option Addr
  R : List (Nat × Addr)
  H0 : Hp
  G0 : Hp
abbrev Fx.Ok (f : Fx) (H G : Hp) (σ : L2.St) (δ : DEnv) : Prop := DL.Ok f.K f.cl f.hx f.R f.H0 f.G0 H G σ δ

def EPost {α β : Type} (f : Fx) (W : WX) (σ : L2.St) (rel : Hp → β → α → Prop) (G : Hp) (o : EO α) (Q : β → Hp → Prop) : Prop := match o with
  | .ok a δ => ∀ b H' G', Sub G G' → f.Ok H' G' σ δ → rel G' b a → Q b H'
  | .ex c ns ds δ => ∀ cls dd H' G', Sub G G' → f.Ok H' G' σ δ → XOk f.K f.cl G' c ns ds cls dd → W cls dd σ H'
  | .st => False
theorem EPost.weak {α β : Type} {f : Fx} {W : WX} {σ : L2.St} {rel : Hp → β → α → Prop} {G G' : Hp} {o : EO α} {Q : β → Hp → Prop} (s : Sub G G') (h : EPost f W σ rel G o Q) : EPost f W σ rel G' o Q := by
  cases o with
  | ok a δ => exact fun b H' G'' s' k r => h b H' G'' (s.trans s') k r
  | ex c ns ds δ => exact fun cls dd H' G'' s' k x => h cls dd H' G'' (s.trans s') k x
  | st => exact h
theorem EPost.imp {α β : Type} {f : Fx} {W : WX} {σ : L2.St} {rel : Hp → β → α → Prop} {G : Hp} {o : EO α} {Q Q' : β → Hp → Prop} (h : EPost f W σ rel G o Q) (q : ∀ b H, Q b H → Q' b H) : EPost f W σ rel G o Q' := by
  cases o with
  | ok a δ => exact fun b H' G'' s' k r => q _ _ (h b H' G'' s' k r)
  | ex c ns ds δ => exact h
  | st => exact h
/-- one after the other -/
theorem EPost.bind {α β γ ε : Type} {f : Fx} {W : WX} {σ : L2.St} {rel : Hp → β → α → Prop} {rel2 : Hp → ε → γ → Prop} {G : Hp} {o : EO α} {k : α → DEnv → EO γ} {Q : ε → Hp → Prop} (h : EPost f W σ rel2 G (o.bind k) Q) :
    EPost f W σ rel G o (fun b H1 => ∃ G1 a δ1, Sub G G1 ∧ f.Ok H1 G1 σ δ1 ∧ rel G1 b a ∧ EPost f W σ rel2 G1 (k a δ1) Q) := by
  cases o with
  | ok a δ => exact fun b H' G' s k' r => ⟨G', a, δ, s, k', r, EPost.weak s h⟩
  | ex c ns ds δ => exact h
  | st => exact h
def relD (K : PySem.W.Frag) (cl : Cw) (G : Hp) (v : V) (d : D) : Prop := Rep K cl G v d
def relB (_ : Hp) (a b : Bool) : Prop := a = b
def AvOk (K : PySem.W.Frag) (cl : Cw) (σ : L2.St) (G : Hp) (v : V) : AV → Prop
  | .v d => Rep K cl G v d
  | .r j => σ[j]? = some (some v)
inductive AvL (K : PySem.W.Frag) (cl : Cw) (σ : L2.St) (G : Hp) : List V → List AV → Prop
  | nil : AvL K cl σ G [] []
  | cons {v : V} {vs : List V} {a : AV} {as : List AV} : AvOk K cl σ G v a → AvL K cl σ G vs as → AvL K cl σ G (v :: vs) (a :: as)
theorem AvOk.mono {K : PySem.W.Frag} {cl : Cw} {σ : L2.St} {G G' : Hp} {v : V} {a : AV} (s : Sub G G') (h : AvOk K cl σ G v a) : AvOk K cl σ G' v a := by
  cases a with
  | v d => exact Rep.mono s h
  | r j => exact h
theorem AvL.mono {K : PySem.W.Frag} {cl : Cw} {σ : L2.St} {G G' : Hp} (s : Sub G G') : ∀ {vs : List V} {as : List AV}, AvL K cl σ G vs as → AvL K cl σ G' vs as
  | _, _, .nil => .nil
  | _, _, .cons h t => .cons (h.mono s) (AvL.mono s t)

/-! ### the judgements -/
/-- where one stands: the wish, the classes by name, the exception at hand -/
structure Cf where
  W : WX
  cl : Cw
  hx : Addr × Option Addr
abbrev Cf.fx (c : Cf) (X : Cx) (R : List (Nat × Addr)) (H0 G0 : Hp) : Fx := ⟨X.K, c.cl, c.hx, R, H0, G0⟩
def tE (X : Cx) (e : Expr) : TE := fun σ H Q => ∀ pins s, Inv X pins σ H s → wpAny (model X.prog X.w) X.A (eval e X.env) (EP X pins σ Q) X.xe s
def tT (X : Cx) (e : Expr) : TT := fun σ H Q => ∀ pins s, Inv X pins σ H s → wpAny (model X.prog X.w) X.A (isTrue e X.env (eval e X.env)) (TP X pins σ Q) X.xe s
def tW (X : Cx) (e : Expr) : TT := fun σ H Q => ∀ whole pins s, Inv X pins σ H s → wpAny (model X.prog X.w) X.A (isTrue e X.env whole) (TP X pins σ Q) X.xe s
def tA (X : Cx) (es : List Expr) : TA := fun σ H Q => ∀ pos pins s, Inv X pins σ H s → wpAny (model X.prog X.w) X.A (spliced (backTo pos (starEach es X.env))) (AP X pins σ Q) X.xe s
def tS (X : Cx) (st : Stmt) : TS := fun D σ H => ∀ pins s, Inv X pins σ H s → wpAny (model X.prog X.w) X.A (exec st X.env) (SP X pins D) X.xe s
def tSs (X : Cx) (st : List Stmt) : TS := fun D σ H => ∀ pins s, Inv X pins σ H s → wpAny (model X.prog X.w) X.A (execs st X.env) (SP X pins D) X.xe s
theorem peS (X : Cx) (e : Expr) : PE X e (tE X e) := ⟨fun pins s _ _ _ I h => h pins s I⟩
theorem ptS (X : Cx) (e : Expr) : PT X e (tT X e) := ⟨fun pins s _ _ _ I h => h pins s I⟩
theorem pwS (X : Cx) (e : Expr) : PW X e (tW X e) := ⟨fun wh pins s _ _ _ I h => h wh pins s I⟩
theorem paS (X : Cx) (es : List Expr) : PA X es (tA X es) := ⟨fun pos pins s _ _ _ I h => h pos pins s I⟩
theorem psS (X : Cx) (st : Stmt) : PS X st (tS X st) := ⟨fun pins s _ _ _ I h => h pins s I⟩
theorem pssS (X : Cx) (st : List Stmt) : PSs X st (tSs X st) := ⟨fun pins s _ _ _ I h => h pins s I⟩

def JE (c : Cf) (X : Cx) (e : Expr) (F : DE) : Prop := ∀ (R : List (Nat × Addr)) (H0 G0 H G : Hp) (σ : L2.St) (δ : DEnv) (Q : VK), (c.fx X R H0 G0).Ok H G σ δ → EPost (c.fx X R H0 G0) c.W σ (relD X.K c.cl) G (F δ) Q → tE X e σ H Q
def JT (c : Cf) (X : Cx) (e : Expr) (F : DT) : Prop := ∀ (R : List (Nat × Addr)) (H0 G0 H G : Hp) (σ : L2.St) (δ : DEnv) (Q : Bool → Hp → Prop), (c.fx X R H0 G0).Ok H G σ δ → EPost (c.fx X R H0 G0) c.W σ relB G (F δ) Q → tT X e σ H Q
def JW (c : Cf) (X : Cx) (e : Expr) (F : DT) : Prop := ∀ (R : List (Nat × Addr)) (H0 G0 H G : Hp) (σ : L2.St) (δ : DEnv) (Q : Bool → Hp → Prop), (c.fx X R H0 G0).Ok H G σ δ → EPost (c.fx X R H0 G0) c.W σ relB G (F δ) Q → tW X e σ H Q
def JA (c : Cf) (X : Cx) (es : List Expr) (F : DA) : Prop := ∀ (R : List (Nat × Addr)) (H0 G0 H G : Hp) (σ : L2.St) (δ : DEnv) (Q : List V → Hp → Prop), (c.fx X R H0 G0).Ok H G σ δ → EPost (c.fx X R H0 G0) c.W σ (AvL X.K c.cl σ) G (F δ) Q → tA X es σ H Q

/-! ### slots read -/
section
variable {K : PySem.W.Frag} {cl : Cw} {hx : Addr × Option Addr} {R : List (Nat × Addr)} {H0 G0 H G : Hp} {σ : L2.St} {δ : DEnv}
theorem Ok.at (k : Ok K cl hx R H0 G0 H G σ δ) {i : Nat} {s : Sl} (e : δ[i]? = some s) : ∃ x, σ[i]? = some x ∧ SlOk K cl hx H0 H G x s := by
  have hi : i < σ.length := by
    rw [k.len]
    exact (List.getElem?_eq_some_iff.mp e).1
  exact ⟨σ[i], List.getElem?_eq_getElem hi, k.sl i s _ e (List.getElem?_eq_getElem hi)⟩
theorem Own.froze {a : Addr} {d : D} (g : Sub G H) (ga : G a = none) (w : Own K cl H G a d) : ∃ o, H a = some o ∧ Rep K cl (upd G a o) (.ref a) d := by
  have m : ∀ o, Sub G (upd G a o) := fun o b u e => by rw [upd_ne (ne_of_none e ga)]; exact e
  cases d with
  | lst ds => obtain ⟨xs, e, r⟩ := w; exact ⟨_, e, .lst upd_same (r.mono (m _))⟩
  | dct ks ds => obtain ⟨xs, e, l, r⟩ := w; exact ⟨_, e, .dct upd_same l (r.mono (m _))⟩
  | ins c ns ds => obtain ⟨C, dx, xs, e, l, q, r⟩ := w; exact ⟨_, e, .ins upd_same l q (r.mono (m _))⟩
  | _ => exact w.elim
/-- an owned object is frozen -/
theorem Ok.freeze (k : Ok K cl hx R H0 G0 H G σ δ) {i : Nat} {d : D} (e : δ[i]? = some (.own d)) :
    ∃ a G', σ[i]? = some (some (.ref a)) ∧ Sub G G' ∧ Rep K cl G' (.ref a) d ∧ Ok K cl hx R H0 G0 H G' σ (δ.set i (.val d)) := by
  obtain ⟨x, ex, a, rfl, ga, h0, w⟩ := k.at e
  obtain ⟨o, ho, r⟩ := w.froze k.sub ga
  have hi : i < δ.length := (List.getElem?_eq_some_iff.mp e).1
  have m : Sub G (upd G a o) := fun b u e => by rw [upd_ne (ne_of_none e ga)]; exact e
  have neR : ∀ p ∈ R, p.2 ≠ a := fun p hp z => by
    obtain ⟨d', e1, e2⟩ := k.refs p hp
    have := k.sep p.1 i _ _ a e1 e rfl rfl (by rw [e2, z]) ex
    rw [this, e] at e1; cases e1
  refine ⟨a, upd G a o, ex, m, r, ?_⟩
  refine ⟨by rw [List.length_set]; exact k.len, fun b u q => ?_, k.ext.trans m, fun b u q => ?_, k.kept, fun p hp => ⟨(k.rfree p hp).1, by rw [upd_ne (neR p hp)]; exact (k.rfree p hp).2⟩, fun j s x e1 e2 => ?_, fun j l s t b e1 e2 i1 i2 s1 s2 => ?_, fun p hp => ?_, fun j d' e1 => ?_⟩
  · by_cases hb : b = a
    · subst hb; rw [upd_same] at q; cases q; exact ho
    · rw [upd_ne hb] at q; exact k.sub b u q
  · by_cases hb : b = a
    · subst hb; exact .inr h0
    · rw [upd_ne hb] at q; exact k.new b u q
  · by_cases hj : j = i
    · subst hj
      rw [List.getElem?_set_self hi] at e1
      cases e1
      rw [ex] at e2; cases e2
      exact ⟨_, rfl, r⟩
    · rw [List.getElem?_set_ne (Ne.symm hj)] at e1
      have q := k.sl j s x e1 e2
      have ne : ∀ b, x = some (.ref b) → isO s = true → b ≠ a := fun b hb hs z => by
        subst z; subst hb
        exact hj (k.sep j i _ _ _ e1 e hs rfl e2 ex)
      cases s with
      | un => trivial
      | val d => obtain ⟨v, q1, q2⟩ := q; exact ⟨v, q1, q2.mono m⟩
      | own d => obtain ⟨b, q1, q2, q3, q4⟩ := q; exact ⟨b, q1, by rw [upd_ne (ne b q1 rfl)]; exact q2, q3, q4.mono m fun _ z => z⟩
      | rf d => obtain ⟨b, q1, q2, q4⟩ := q; exact ⟨b, q1, by rw [upd_ne (ne b q1 rfl)]; exact q2, q4.mono m fun _ z => z⟩
      | exc c ns ds => obtain ⟨q0, dd, xs, vs, q1, q2, q3, q4⟩ := q; exact ⟨q0, dd, xs, vs, q1, m _ _ q2, q3.mono m, q4⟩
  · have h1 : j ≠ i := fun z => by subst z; rw [List.getElem?_set_self hi] at e1; cases e1; cases i1
    have h2 : l ≠ i := fun z => by subst z; rw [List.getElem?_set_self hi] at e2; cases e2; cases i2
    rw [List.getElem?_set_ne (Ne.symm h1)] at e1
    rw [List.getElem?_set_ne (Ne.symm h2)] at e2
    exact k.sep j l s t b e1 e2 i1 i2 s1 s2
  · obtain ⟨d', e1, e2⟩ := k.refs p hp
    have : p.1 ≠ i := fun z => by rw [z, e] at e1; cases e1
    exact ⟨d', by rw [List.getElem?_set_ne (Ne.symm this)]; exact e1, e2⟩
  · by_cases hj : j = i
    · subst hj
      rw [List.getElem?_set_self hi] at e1; cases e1
    · rw [List.getElem?_set_ne (Ne.symm hj)] at e1
      exact k.rfs j d' e1
end

/-! ### names and constants -/
def dVar (i : Nat) : DE := fun δ => match δ[i]? with
  | some (.val d) => .ok d δ
  | some (.own d) => .ok d (δ.set i (.val d))
  | _ => .st
def dC (d : D) : DE := fun δ => .ok d δ
section
variable {c : Cf} {X : Cx} {a b : Expr} {fa fb : DE} {pos : Pos}
theorem je_of {e : Expr} {t : TE} {F : DE} (p : PE X e t) (h : ∀ (R : List (Nat × Addr)) (H0 G0 H G : Hp) (σ : L2.St) (δ : DEnv) (Q : VK), (c.fx X R H0 G0).Ok H G σ δ → EPost (c.fx X R H0 G0) c.W σ (relD X.K c.cl) G (F δ) Q → t σ H Q) : JE c X e F :=
  fun R H0 G0 H G σ δ Q k h' pins s I => p.run pins s σ H Q I (h R H0 G0 H G σ δ Q k h')
theorem jt_of {e : Expr} {t : TT} {F : DT} (p : PT X e t) (h : ∀ (R : List (Nat × Addr)) (H0 G0 H G : Hp) (σ : L2.St) (δ : DEnv) (Q : Bool → Hp → Prop), (c.fx X R H0 G0).Ok H G σ δ → EPost (c.fx X R H0 G0) c.W σ relB G (F δ) Q → t σ H Q) : JT c X e F :=
  fun R H0 G0 H G σ δ Q k h' pins s I => p.run pins s σ H Q I (h R H0 G0 H G σ δ Q k h')
theorem jw_of {e : Expr} {t : TT} {F : DT} (p : PW X e t) (h : ∀ (R : List (Nat × Addr)) (H0 G0 H G : Hp) (σ : L2.St) (δ : DEnv) (Q : Bool → Hp → Prop), (c.fx X R H0 G0).Ok H G σ δ → EPost (c.fx X R H0 G0) c.W σ relB G (F δ) Q → t σ H Q) : JW c X e F :=
  fun R H0 G0 H G σ δ Q k h' wh pins s I => p.run wh pins s σ H Q I (h R H0 G0 H G σ δ Q k h')
theorem ja_of {es : List Expr} {t : TA} {F : DA} (p : PA X es t) (h : ∀ (R : List (Nat × Addr)) (H0 G0 H G : Hp) (σ : L2.St) (δ : DEnv) (Q : List V → Hp → Prop), (c.fx X R H0 G0).Ok H G σ δ → EPost (c.fx X R H0 G0) c.W σ (AvL X.K c.cl σ) G (F δ) Q → t σ H Q) : JA c X es F :=
  fun R H0 G0 H G σ δ Q k h' pos pins s I => p.run pos pins s σ H Q I (h R H0 G0 H G σ δ Q k h')

theorem je_var {i : Nat} (p : PE X a (tVar i)) : JE c X a (dVar i) := by
  refine je_of p fun R H0 G0 H G σ δ Q k h => ?_
  unfold dVar at h
  cases e : δ[i]? with
  | none => rw [e] at h; exact h.elim
  | some s =>
    rw [e] at h
    cases s with
    | val d =>
      obtain ⟨x, ex, v, rfl, r⟩ := k.at e
      exact ⟨v, ex, h v H G (.refl G) k r⟩
    | own d =>
      obtain ⟨a, G', ex, sg, r, k'⟩ := k.freeze e
      exact ⟨.ref a, ex, h (.ref a) H G' sg k' r⟩
    | un => exact h.elim
    | rf d => exact h.elim
    | exc c ns ds => exact h.elim
theorem je_c {d : D} {v : V} (p : PE X a (tC v)) (r : ∀ G, Rep X.K c.cl G v d) : JE c X a (dC d) :=
  je_of p fun R H0 G0 H G σ δ Q k h => h v H G (.refl G) k (r G)
theorem je_int {i : Int} {j : Nat} : JE c X (.Constant (.int i) j pos) (dC (.int i)) := je_c pe_int fun _ => .int i
theorem je_bl {i : Bool} {j : Nat} : JE c X (.Constant (.bool i) j pos) (dC (.bl i)) := je_c pe_bl fun _ => .bl i
theorem je_non {j : Nat} : JE c X (.Constant .none j pos) (dC .non) := je_c pe_non fun _ => .non
theorem je_str {x : Str} {j : Nat} : JE c X (.Constant (.str x) j pos) (dC (.str x)) := je_c pe_str fun _ => .str x

/-! ### operators -/
def dBin (g : D → D → Option D) (fa fb : DE) : DE := fun δ => (fa δ).bind fun x δ1 => (fb δ1).bind fun y δ2 => match g x y with
  | some z => .ok z δ2
  | none => .st
/-- r serves g -/
def BinOk (K : PySem.W.Frag) (cl : Cw) (r : R2) (g : D → D → Option D) : Prop :=
  ∀ (H G : Hp) (x y : V) (d e z : D) (Q : VK), Sub G H → Rep K cl G x d → Rep K cl G y e → g d e = some z → (∀ v H' G', Grow H G H' G' → Rep K cl G' v z → Q v H') → r x y H Q
theorem bin_ok {r : R2} {g : D → D → Option D} (hg : BinOk X.K c.cl r g) (ha : JE c X a fa) (hb : JE c X b fb) {R : List (Nat × Addr)} {H0 G0 H G : Hp} {σ : L2.St} {δ : DEnv} {Q : VK} (k : (c.fx X R H0 G0).Ok H G σ δ)
    (h : EPost (c.fx X R H0 G0) c.W σ (relD X.K c.cl) G (dBin g fa fb δ) Q) : tOp r (tE X a) (tE X b) σ H Q := by
  refine ha R H0 G0 H G σ δ _ k (EPost.imp (EPost.bind h) fun x H1 ⟨G1, d, δ1, s1, k1, r1, h1⟩ => ?_)
  refine hb R H0 G0 H1 G1 σ δ1 _ k1 (EPost.imp (EPost.bind h1) fun y H2 ⟨G2, e, δ2, s2, k2, r2, h2⟩ => ?_)
  cases q : g d e with
  | none => rw [q] at h2; exact h2.elim
  | some z =>
    rw [q] at h2
    exact hg H2 G2 x y d e z Q k2.sub (Rep.mono s2 r1) r2 q fun v H' G' gr rv => h2 v H' G' gr.gk (k2.grow gr) rv
theorem je_op {op : Operator} {r : R2} {g : D → D → Option D} (ho : OpR X (binaryOp op) r) (hg : BinOk X.K c.cl r g) (ha : JE c X a fa) (hb : JE c X b fb) : JE c X (.BinOp a op b pos) (dBin g fa fb) :=
  je_of (pe_op ho (peS X a) (peS X b)) fun R H0 G0 H G σ δ Q k h => bin_ok hg ha hb k h
theorem je_cmp {op : CmpOp} {r : R2} {g : D → D → Option D} (ho : OpR X (compareOp op) r) (hg : BinOk X.K c.cl r g) (ha : JE c X a fa) (hb : JE c X b fb) (hm : behindInMarks op b = false) : JE c X (.Compare a [op] [b] pos) (dBin g fa fb) :=
  je_of (pe_cmpR ho (peS X a) (peS X b) hm) fun R H0 G0 H G σ δ Q k h => bin_ok hg ha hb k h
/-- as a test -/
def dTest (fa : DE) : DT := fun δ => (fa δ).bind fun x δ1 => match x with
  | .bl b => .ok b δ1
  | _ => .st
theorem test_ok {R : List (Nat × Addr)} {H0 G0 G : Hp} {σ : L2.St} {o : EO D} {Q : Bool → Hp → Prop}
    (h : EPost (c.fx X R H0 G0) c.W σ relB G (o.bind fun x δ1 => match x with | .bl b => .ok b δ1 | _ => .st) Q) : EPost (c.fx X R H0 G0) c.W σ (relD X.K c.cl) G o (fun x H1 => ∃ k, x = .bl k ∧ Q k H1) := by
  refine EPost.imp (EPost.bind (rel := relD X.K c.cl) h) fun x H1 ⟨G1, d, δ1, s1, k1, r1, h1⟩ => ?_
  cases d with
  | bl b =>
    cases r1
    exact ⟨b, rfl, h1 b H1 G1 (.refl G1) k1 rfl⟩
  | _ => exact h1.elim
theorem jt_cmp {op : CmpOp} {r : R2} {g : D → D → Option D} (ho : OpR X (compareOp op) r) (hg : BinOk X.K c.cl r g) (ha : JE c X a fa) (hb : JE c X b fb) (hm : behindInMarks op b = false) : JT c X (.Compare a [op] [b] pos) (dTest (dBin g fa fb)) :=
  jt_of (pt_cmpR ho (peS X a) (peS X b) hm) fun R H0 G0 H G σ δ Q k h => bin_ok hg ha hb k (test_ok h)
/-- truth -/
def dTruth : D → Option Bool
  | .non => some false
  | .bl b => some b
  | .int i => some (i != 0)
  | .str y => if y.length ≤ sizeLine then some ((y.length : Int) != 0) else none
  | .lst xs => some (!xs.isEmpty)
  | .tup xs => some (!xs.isEmpty)
  | .dct ks vs => some (!ks.isEmpty)
  | _ => none
def dTru (fa : DE) : DT := fun δ => (fa δ).bind fun x δ1 => match dTruth x with
  | some b => .ok b δ1
  | none => .st
theorem RepL.isEmpty {K : PySem.W.Frag} {cl : Cw} {G : Hp} {vs : List V} {ds : List D} (r : RepL K cl G vs ds) : vs.isEmpty = ds.isEmpty := by
  cases r <;> rfl
theorem truth_ok {K : PySem.W.Frag} {cl : Cw} {H G : Hp} (s : Sub G H) {x : V} {d : D} {b : Bool} (r : Rep K cl G x d) (e : dTruth d = some b) : TruV K x H b := by
  cases r with
  | non => cases e; exact rfl
  | bl b' => cases e; exact rfl
  | int i => cases e; exact rfl
  | str y =>
    simp only [dTruth] at e
    by_cases hl : y.length ≤ sizeLine
    · rw [if_pos hl] at e; cases e; exact ⟨hl, rfl⟩
    · rw [if_neg hl] at e; cases e
  | lst h1 h2 => cases e; exact .inl ⟨_, .inl (.inl (s _ _ h1)), by rw [h2.isEmpty]⟩
  | tup h1 h2 => cases e; exact .inr (.inl ⟨_, .inl (.inl (s _ _ h1)), by rw [h2.isEmpty]⟩)
  | @dct a ks xs ds h1 hl h2 =>
    cases e
    refine .inr (.inr ⟨_, s _ _ h1, ?_⟩)
    cases ks with
    | nil => rfl
    | cons k r =>
      cases xs with
      | nil => cases hl
      | cons x t => rfl
  | ins => cases e
  | scr => cases e
  | set => cases e
theorem jt_truth (ha : JE c X a fa) (he : ∀ whole, isTrue a X.env whole = (do let v ← whole; standAt a.pos; holding [v] (truthy v))) : JT c X a (dTru fa) := by
  refine jt_of (pt_truth (peS X a) he) fun R H0 G0 H G σ δ Q k h => ?_
  refine ha R H0 G0 H G σ δ _ k (EPost.imp (EPost.bind h) fun x H1 ⟨G1, d, δ1, s1, k1, r1, h1⟩ => ?_)
  cases q : dTruth d with
  | none => rw [q] at h1; exact h1.elim
  | some b =>
    rw [q] at h1
    exact ⟨b, truth_ok k1.sub r1 q, h1 b H1 G1 (.refl G1) k1 rfl⟩
end
end DL

set_option maxRecDepth 100000
set_option maxHeartbeats 4000000
namespace DL
open PySem PySem.Spec PyProof.Rows L2

/-! ### a step that changes the objects at A alone -/
structure Frm (A : List Addr) (H G H' G' : Hp) : Prop where
  gk : Sub G G'
  sub : Sub G' H'
  kept : ∀ b o, H b = some o → b ∉ A → H' b = some o
  new : ∀ b o, G' b = some o → G b = some o ∨ H b = none
/-- a slot's new content -/
def Sl.put (s : Sl) (d : D) : Sl := match s with
  | .own _ => .own d
  | .rf _ => .rf d
  | s => s
def Sl.cont : Sl → Option D
  | .own d => some d
  | .rf d => some d
  | _ => none
theorem isO_put {s : Sl} {d : D} : isO (s.put d) = isO s := by cases s <;> rfl
section
variable {K : PySem.W.Frag} {cl : Cw} {hx : Addr × Option Addr} {R : List (Nat × Addr)} {H0 G0 H G H' G' : Hp} {σ : L2.St} {δ : DEnv} {A : List Addr}
/-- behind such a step: δ' differs in the contents of owned slots alone -/
theorem Ok.frame (k : Ok K cl hx R H0 G0 H G σ δ) (f : Frm A H G H' G') {δ' : DEnv} (hl : δ'.length = δ.length)
    (hs : ∀ (i : Nat) (s : Sl), δ[i]? = some s → isO s = false → δ'[i]? = some s)
    (ho : ∀ (i : Nat) (s : Sl) (a : Addr), δ[i]? = some s → isO s = true → σ[i]? = some (some (.ref a)) → ∃ d, δ'[i]? = some (s.put d) ∧ G' a = none ∧ Own K cl H' G' a d)
    (hA : ∀ a ∈ A, ∃ (i : Nat) (s : Sl), δ[i]? = some s ∧ isO s = true ∧ σ[i]? = some (some (.ref a))) : Ok K cl hx R H0 G0 H' G' σ δ' where
  len := by rw [k.len, hl]
  sub := f.sub
  ext := k.ext.trans f.gk
  new := fun b o e => by
    rcases f.new b o e with z | z
    · exact k.new b o z
    · by_cases hb : ∃ p ∈ R, p.2 = b
      · obtain ⟨p, hp, rfl⟩ := hb
        obtain ⟨d, e1, e2⟩ := k.refs p hp
        obtain ⟨a, q, _, w⟩ := k.sl _ _ _ e1 e2
        cases q
        obtain ⟨u, hu⟩ := w.ex
        rw [z] at hu; cases hu
      · refine .inr ?_
        cases q : H0 b with
        | none => rfl
        | some u =>
          have := k.kept b u q fun p hp e => hb ⟨p, hp, e⟩
          rw [z] at this; cases this
  kept := fun b o e hR => by
    refine f.kept b o (k.kept b o e hR) fun hb => ?_
    obtain ⟨i, s, e1, e2, e3⟩ := hA b hb
    obtain ⟨a, d, q1, q2, q3, q4⟩ := (k.sl i s _ e1 e3).ex e2
    cases q1
    rcases q4 with q4 | q4
    · subst q4
      obtain ⟨a', z, _, h0, _⟩ := k.sl i _ _ e1 e3
      cases z
      rw [h0] at e; cases e
    · subst q4
      -- a by-reference parameter: its address stands in R
      obtain ⟨p, hp, z⟩ := k.rfs i d e1
      obtain ⟨d', e4, e5⟩ := k.refs p hp
      rw [z, e3] at e5
      cases e5
      exact hR p hp rfl
  rfree := fun p hp => by
    refine ⟨(k.rfree p hp).1, ?_⟩
    obtain ⟨d, e1, e2⟩ := k.refs p hp
    obtain ⟨d', _, q, _⟩ := ho p.1 _ p.2 e1 rfl e2
    exact q
  sl := fun i s x e1 e2 => by
    have hi : i < δ.length := by rw [← hl]; exact (List.getElem?_eq_some_iff.mp e1).1
    have e0 : δ[i]? = some δ[i] := List.getElem?_eq_getElem hi
    have q := k.sl i _ x e0 e2
    cases hO : isO δ[i] with
    | false =>
      have := hs i _ e0 hO
      rw [e1] at this
      cases this
      generalize δ[i] = s at q hO
      cases s with
      | un => trivial
      | val d => obtain ⟨v, q1, q2⟩ := q; exact ⟨v, q1, q2.mono f.gk⟩
      | own d => cases hO
      | rf d => cases hO
      | exc c ns ds => obtain ⟨q0, dd, xs, vs, q1, q2, q3, q4⟩ := q; exact ⟨q0, dd, xs, vs, q1, f.gk _ _ q2, q3.mono f.gk, q4⟩
    | true =>
      obtain ⟨a, d, q1, q2, q3, q4⟩ := q.ex hO
      obtain ⟨d', z1, z2, z3⟩ := ho i _ a e0 hO (by rw [e2, q1])
      rw [e1] at z1
      cases z1
      rcases q4 with q4 | q4
      · rw [q4] at q ⊢
        obtain ⟨a', y1, y2, y3, y4⟩ := q
        rw [q1] at y1; cases y1
        exact ⟨a, q1, z2, y3, z3⟩
      · rw [q4]
        exact ⟨a, q1, z2, z3⟩
  sep := fun i j s t a e1 e2 i1 i2 s1 s2 => by
    have hi : i < δ.length := by rw [← hl]; exact (List.getElem?_eq_some_iff.mp e1).1
    have hj : j < δ.length := by rw [← hl]; exact (List.getElem?_eq_some_iff.mp e2).1
    have o1 : isO δ[i] = true := by
      cases hO : isO δ[i] with
      | true => rfl
      | false => have := hs i _ (List.getElem?_eq_getElem hi) hO; rw [e1] at this; cases this; rw [hO] at i1; cases i1
    have o2 : isO δ[j] = true := by
      cases hO : isO δ[j] with
      | true => rfl
      | false => have := hs j _ (List.getElem?_eq_getElem hj) hO; rw [e2] at this; cases this; rw [hO] at i2; cases i2
    exact k.sep i j _ _ a (List.getElem?_eq_getElem hi) (List.getElem?_eq_getElem hj) o1 o2 s1 s2
  refs := fun p hp => by
    obtain ⟨d, e1, e2⟩ := k.refs p hp
    obtain ⟨d', q, _, _⟩ := ho p.1 _ p.2 e1 rfl e2
    exact ⟨d', q, e2⟩
  rfs := fun i d e => by
    have hi : i < δ.length := by rw [← hl]; exact (List.getElem?_eq_some_iff.mp e).1
    have e0 : δ[i]? = some δ[i] := List.getElem?_eq_getElem hi
    cases hO : isO δ[i] with
    | false =>
      have z := hs i _ e0 hO
      rw [e] at z
      rw [← Option.some.inj z] at hO; cases hO
    | true =>
      obtain ⟨x, ex, q⟩ := k.at e0
      obtain ⟨a, d0, q1, q2, q3, q4⟩ := q.ex hO
      obtain ⟨d', z1, _, _⟩ := ho i _ a e0 hO (by rw [ex, q1])
      rw [e] at z1
      rcases q4 with q4 | q4
      · rw [q4] at z1; cases z1
      · rw [q4] at e0; exact k.rfs i d0 e0
/-- a slot stored -/
theorem Ok.set (k : Ok K cl hx R H0 G0 H G σ δ) {i : Nat} {v : V} {s0 s : Sl} (e0 : δ[i]? = some s0) (hn : ∀ d, s0 ≠ .rf d) (hv : SlOk K cl hx H0 H G (some v) s) (hr : ∀ d, s ≠ .rf d)
    (hsep : ∀ a, isO s = true → v = .ref a → ∀ (j : Nat) (t : Sl), δ[j]? = some t → isO t = true → σ[j]? ≠ some (some (.ref a))) : Ok K cl hx R H0 G0 H G (σ.set i (some v)) (δ.set i s) := by
  have hi : i < δ.length := (List.getElem?_eq_some_iff.mp e0).1
  have hi2 : i < σ.length := by rw [k.len]; exact hi
  have neR : ∀ p ∈ R, p.1 ≠ i := fun p hp z => by
    obtain ⟨d, e1, _⟩ := k.refs p hp
    rw [z, e0] at e1
    cases e1
    exact hn d rfl
  refine ⟨by rw [List.length_set, List.length_set]; exact k.len, k.sub, k.ext, k.new, k.kept, k.rfree, fun j t x e1 e2 => ?_, fun j l t u a e1 e2 i1 i2 s1 s2 => ?_, fun p hp => ?_, fun j d e => ?_⟩
  · by_cases hj : j = i
    · subst hj
      rw [List.getElem?_set_self hi] at e1
      rw [List.getElem?_set_self hi2] at e2
      cases e1; cases e2
      exact hv
    · rw [List.getElem?_set_ne (Ne.symm hj)] at e1 e2
      exact k.sl j t x e1 e2
  · by_cases hj : j = i
    · by_cases hl : l = i
      · rw [hj, hl]
      · subst hj
        rw [List.getElem?_set_self hi] at e1
        rw [List.getElem?_set_self hi2] at s1
        rw [List.getElem?_set_ne (Ne.symm hl)] at e2 s2
        cases e1; cases s1
        exact absurd s2 (hsep a i1 rfl l u e2 i2)
    · by_cases hl : l = i
      · subst hl
        rw [List.getElem?_set_self hi] at e2
        rw [List.getElem?_set_self hi2] at s2
        rw [List.getElem?_set_ne (Ne.symm hj)] at e1 s1
        cases e2; cases s2
        exact absurd s1 (hsep a i2 rfl j t e1 i1)
      · rw [List.getElem?_set_ne (Ne.symm hj)] at e1 s1
        rw [List.getElem?_set_ne (Ne.symm hl)] at e2 s2
        exact k.sep j l t u a e1 e2 i1 i2 s1 s2
  · obtain ⟨d, e1, e2⟩ := k.refs p hp
    exact ⟨d, by rw [List.getElem?_set_ne (Ne.symm (neR p hp))]; exact e1, by rw [List.getElem?_set_ne (Ne.symm (neR p hp))]; exact e2⟩
  · by_cases hj : j = i
    · subst hj
      rw [List.getElem?_set_self hi] at e
      cases e
      exact absurd rfl (hr d)
    · rw [List.getElem?_set_ne (Ne.symm hj)] at e
      exact k.rfs j d e
/-- the address of a new object is nobody's -/
theorem Ok.freshH0 (k : Ok K cl hx R H0 G0 H G σ δ) {p : Addr} (np : H p = none) : H0 p = none := by
  cases q : H0 p with
  | none => rfl
  | some u =>
    by_cases hb : ∃ r ∈ R, r.2 = p
    · obtain ⟨r, hr, rfl⟩ := hb
      obtain ⟨d, e1, e2⟩ := k.refs r hr
      obtain ⟨a, q, _, w⟩ := k.sl _ _ _ e1 e2
      cases q
      obtain ⟨u, hu⟩ := w.ex
      rw [np] at hu; cases hu
    · have := k.kept p u q fun r hr e => hb ⟨r, hr, e⟩
      rw [np] at this; cases this
theorem Ok.freshSl (k : Ok K cl hx R H0 G0 H G σ δ) {p : Addr} (np : H p = none) {j : Nat} {t : Sl} (e : δ[j]? = some t) (o : isO t = true) : σ[j]? ≠ some (some (.ref p)) := fun z => by
  obtain ⟨a, d, q1, q2, q3, q4⟩ := (k.sl j t _ e z).ex o
  cases q1
  obtain ⟨u, hu⟩ := q3.ex
  rw [np] at hu; cases hu
theorem Ok.freshG (k : Ok K cl hx R H0 G0 H G σ δ) {p : Addr} (np : H p = none) : G p = none := by
  cases q : G p with
  | none => rfl
  | some u => have := k.sub p u q; rw [np] at this; cases this
end

/-! ### new owned objects -/
def FPost (f : Fx) (W : WX) (σ : L2.St) (G : Hp) (o : EO D) (Q : VK) : Prop := match o with
  | .ok d δ => ∀ a H' G', Sub G G' → f.Ok H' G' σ δ → G' a = none → f.H0 a = none → Own f.K f.cl H' G' a d → (∀ (j : Nat) (t : Sl), δ[j]? = some t → isO t = true → σ[j]? ≠ some (some (.ref a))) → Q (.ref a) H'
  | .ex c ns ds δ => ∀ cls dd H' G', Sub G G' → f.Ok H' G' σ δ → XOk f.K f.cl G' c ns ds cls dd → W cls dd σ H'
  | .st => False
def JF (c : Cf) (X : Cx) (e : Expr) (F : DE) : Prop := ∀ (R : List (Nat × Addr)) (H0 G0 H G : Hp) (σ : L2.St) (δ : DEnv) (Q : VK), (c.fx X R H0 G0).Ok H G σ δ → FPost (c.fx X R H0 G0) c.W σ G (F δ) Q → tE X e σ H Q
section
variable {K : PySem.W.Frag} {cl : Cw} {hx : Addr × Option Addr} {R : List (Nat × Addr)} {H0 G0 H G H' G' : Hp} {σ : L2.St} {δ : DEnv} {A : List Addr}
/-- an owned object that no slot holds is frozen -/
theorem Ok.freezeNew (k : Ok K cl hx R H0 G0 H G σ δ) {a : Addr} {d : D} (ga : G a = none) (h0 : H0 a = none) (w : Own K cl H G a d) (hs : ∀ (j : Nat) (t : Sl), δ[j]? = some t → isO t = true → σ[j]? ≠ some (some (.ref a))) :
    ∃ G', Sub G G' ∧ Rep K cl G' (.ref a) d ∧ Ok K cl hx R H0 G0 H G' σ δ := by
  obtain ⟨o, ho, r⟩ := w.froze k.sub ga
  have m : Sub G (upd G a o) := fun b u e => by rw [upd_ne (ne_of_none e ga)]; exact e
  refine ⟨upd G a o, m, r, ⟨k.len, fun b u q => ?_, k.ext.trans m, fun b u q => ?_, k.kept, fun p hp => ?_, fun j s x e1 e2 => ?_, k.sep, k.refs, k.rfs⟩⟩
  · by_cases hb : b = a
    · subst hb; rw [upd_same] at q; cases q; exact ho
    · rw [upd_ne hb] at q; exact k.sub b u q
  · by_cases hb : b = a
    · subst hb; exact .inr h0
    · rw [upd_ne hb] at q; exact k.new b u q
  · refine ⟨(k.rfree p hp).1, ?_⟩
    obtain ⟨d', e1, e2⟩ := k.refs p hp
    have : p.2 ≠ a := fun z => hs _ _ e1 rfl (by rw [e2, z])
    rw [upd_ne this]
    exact (k.rfree p hp).2
  · have q := k.sl j s x e1 e2
    have ne : ∀ b, x = some (.ref b) → isO s = true → b ≠ a := fun b hb hO z => by
      subst z; subst hb
      exact hs j s e1 hO e2
    cases s with
    | un => trivial
    | val d => obtain ⟨v, q1, q2⟩ := q; exact ⟨v, q1, q2.mono m⟩
    | own d => obtain ⟨b, q1, q2, q3, q4⟩ := q; exact ⟨b, q1, by rw [upd_ne (ne b q1 rfl)]; exact q2, q3, q4.mono m fun _ z => z⟩
    | rf d => obtain ⟨b, q1, q2, q4⟩ := q; exact ⟨b, q1, by rw [upd_ne (ne b q1 rfl)]; exact q2, q4.mono m fun _ z => z⟩
    | exc c ns ds => obtain ⟨q0, dd, xs, vs, q1, q2, q3, q4⟩ := q; exact ⟨q0, dd, xs, vs, q1, m _ _ q2, q3.mono m, q4⟩
end
theorem FPost.bind {α : Type} {f : Fx} {W : WX} {σ : L2.St} {rel : Hp → α → α → Prop} {β : Type} {rel' : Hp → β → α → Prop} {G : Hp} {o : EO α} {k : α → DEnv → EO D} {Q : VK} (h : FPost f W σ G (o.bind k) Q) :
    EPost f W σ rel' G o (fun b H1 => ∃ G1 a δ1, Sub G G1 ∧ f.Ok H1 G1 σ δ1 ∧ rel' G1 b a ∧ FPost f W σ G1 (k a δ1) Q) := by
  cases o with
  | ok a δ =>
    refine fun b H' G' s k' r => ⟨G', a, δ, s, k', r, ?_⟩
    have h : FPost f W σ G (k a δ) Q := h
    cases q : k a δ with
    | ok d δ' => rw [q] at h; exact fun b H' G'' s' => h b H' G'' (s.trans s')
    | ex c ns ds δ' => rw [q] at h; exact fun cls dd H' G'' s' => h cls dd H' G'' (s.trans s')
    | st => rw [q] at h; exact h
  | ex c ns ds δ => exact h
  | st => exact h
theorem JF.je {c : Cf} {X : Cx} {e : Expr} {F : DE} (h : JF c X e F) : JE c X e F := fun R H0 G0 H G σ δ Q k hp => by
  refine h R H0 G0 H G σ δ Q k ?_
  cases q : F δ with
  | ok d δ' =>
    rw [q] at hp
    intro a H' G' s k' ga h0 w hs
    obtain ⟨G2, s2, r, k2⟩ := k'.freezeNew ga h0 w hs
    exact hp (.ref a) H' G2 (s.trans s2) k2 r
  | ex c ns ds δ' => rw [q] at hp; exact hp
  | st => rw [q] at hp; exact hp

/-! ### arguments, displays -/
def dNil : DA := fun δ => .ok [] δ
def dCons (fa : DE) (fr : DA) : DA := fun δ => (fa δ).bind fun x δ1 => (fr δ1).bind fun xs δ2 => .ok (.v x :: xs) δ2
def dRef (j : Nat) (fr : DA) : DA := fun δ => (fr δ).bind fun xs δ2 => .ok (.r j :: xs) δ2
def avs : List AV → Option (List D)
  | [] => some []
  | .v d :: r => (avs r).map (d :: ·)
  | .r _ :: _ => none
section
variable {c : Cf} {X : Cx} {e : Expr} {es : List Expr} {fe : DE} {fs : DA} {pos : Pos}
theorem ja_nil : JA c X [] dNil := ja_of pa_nil fun R H0 G0 H G σ δ Q k h => h [] H G (.refl G) k .nil
theorem ja_cons (he : JE c X e fe) (hr : JA c X es fs) (hs : starEach (e :: es) X.env = (false, eval e X.env) :: starEach es X.env := by rfl) : JA c X (e :: es) (dCons fe fs) := by
  refine ja_of (pa_cons (peS X e) (paS X es) hs) fun R H0 G0 H G σ δ Q k h => ?_
  refine he R H0 G0 H G σ δ _ k (EPost.imp (EPost.bind h) fun x H1 ⟨G1, d, δ1, s1, k1, r1, h1⟩ => ?_)
  refine hr R H0 G0 H1 G1 σ δ1 _ k1 (EPost.imp (EPost.bind h1) fun xs H2 ⟨G2, ds, δ2, s2, k2, r2, h2⟩ => ?_)
  exact h2 (x :: xs) H2 G2 (.refl G2) k2 (.cons (Rep.mono s2 r1) r2)
theorem ja_ref {j : Nat} (p : PE X e (tVar j)) (hr : JA c X es fs) (hs : starEach (e :: es) X.env = (false, eval e X.env) :: starEach es X.env := by rfl) : JA c X (e :: es) (fun δ => match δ[j]? with | some s => if isO s then dRef j fs δ else .st | none => .st) := by
  refine ja_of (pa_cons p (paS X es) hs) fun R H0 G0 H G σ δ Q k h => ?_
  cases q : δ[j]? with
  | none => rw [q] at h; exact h.elim
  | some s =>
    rw [q] at h
    cases hO : isO s with
    | false => simp only [hO] at h; exact h.elim
    | true =>
      simp only [hO] at h
      obtain ⟨x, ex, w⟩ := k.at q
      obtain ⟨a, d, q1, _⟩ := w.ex hO
      subst q1
      refine ⟨.ref a, ex, ?_⟩
      refine hr R H0 G0 H G σ δ _ k (EPost.imp (EPost.bind h) fun xs H2 ⟨G2, ds, δ2, s2, k2, r2, h2⟩ => ?_)
      exact h2 (.ref a :: xs) H2 G2 (.refl G2) k2 (.cons ex r2)
theorem AvL.vals {K : PySem.W.Frag} {cl : Cw} {σ : L2.St} {G : Hp} : ∀ {vs : List V} {as : List AV} {ds : List D}, AvL K cl σ G vs as → avs as = some ds → RepL K cl G vs ds
  | _, _, _, .nil, e => by cases e; exact .nil
  | _, _, _, .cons (a := .v d) h t, e => by
    simp only [avs, Option.map_eq_some_iff] at e
    obtain ⟨ds, e1, rfl⟩ := e
    exact .cons h (AvL.vals t e1)
  | _, _, _, .cons (a := .r j) h t, e => by cases e
/-- the values of a list of expressions -/
def dVals (fs : DA) (k : List D → DEnv → EO D) : DE := fun δ => (fs δ).bind fun as δ1 => match avs as with
  | some ds => k ds δ1
  | none => .st
def dTup (fs : DA) : DE := dVals fs fun ds δ => if ds.length ≤ sizeLine then .ok (.tup ds) δ else .st
def dLst (fs : DA) : DE := dVals fs fun ds δ => if ds.length ≤ sizeLine then .ok (.lst ds) δ else .st
theorem je_tup {x1 : Nat} (h : JA c X es fs) : JE c X (.Tuple es x1 pos) (dTup fs) := by
  refine je_of (pe_tup (paS X es)) fun R H0 G0 H G σ δ Q k hp => ?_
  refine h R H0 G0 H G σ δ _ k (EPost.imp (EPost.bind hp) fun xs H1 ⟨G1, as, δ1, s1, k1, r1, h1⟩ => ?_)
  cases q : avs as with
  | none => rw [q] at h1; exact h1.elim
  | some ds =>
    rw [q] at h1
    have rl := r1.vals q
    by_cases hz : ds.length ≤ sizeLine
    · simp only [if_pos hz] at h1
      refine ⟨by rw [rl.length]; exact hz, fun p np => ?_⟩
      have g := Grow.froze k1.sub np (.tup xs)
      exact h1 (.ref p) _ _ g.gk (k1.grow g) (.tup upd_same (rl.mono g.gk))
    · simp only [if_neg hz] at h1; exact h1.elim
theorem jf_lst (h : JA c X es fs) : JF c X (.List es pos) (dLst fs) := fun R H0 G0 H G σ δ Q k hp pins s I => by
  refine (pe_lst (paS X es)).run pins s σ H Q I ?_
  refine h R H0 G0 H G σ δ _ k (EPost.imp (FPost.bind (rel := fun _ _ _ => True) hp) fun xs H1 ⟨G1, as, δ1, s1, k1, r1, h1⟩ => ?_)
  cases q : avs as with
  | none => rw [q] at h1; exact h1.elim
  | some ds =>
    rw [q] at h1
    have rl := r1.vals q
    by_cases hz : ds.length ≤ sizeLine
    · simp only [if_pos hz] at h1
      refine ⟨by rw [rl.length]; exact hz, fun p np => ?_⟩
      have g := Grow.fresh k1.sub np (.lst xs)
      exact h1 p _ _ g.gk (k1.grow g) (k1.freshG np) (k1.freshH0 np) ⟨xs, upd_same, rl⟩ fun j t e o => k1.freshSl np e o
    · simp only [if_neg hz] at h1; exact h1.elim
end
end DL

set_option maxRecDepth 100000
set_option maxHeartbeats 4000000
namespace DL
open PySem PySem.Spec PyProof.Rows L2

/-! ### what a def promises -/
inductive FO where
  | ret (d : D) (rs : List D) | new (d : D) (rs : List D) | ex (c : Str) (ns : List Str) (ds : List D) (rs : List D) | st
/-- the arguments: kind true: by reference -/
inductive ArgOk (K : PySem.W.Frag) (cl : Cw) (H G : Hp) : List V → List Bool → List D → Prop
  | nil : ArgOk K cl H G [] [] []
  | val {v : V} {d : D} {vs : List V} {ks : List Bool} {ds : List D} : Rep K cl G v d → ArgOk K cl H G vs ks ds → ArgOk K cl H G (v :: vs) (false :: ks) (d :: ds)
  | rf {a : Addr} {d : D} {vs : List V} {ks : List Bool} {ds : List D} : G a = none → Own K cl H G a d → ArgOk K cl H G vs ks ds → ArgOk K cl H G (.ref a :: vs) (true :: ks) (d :: ds)
/-- the addresses of the arguments by reference -/
def refA : List V → List Bool → List Addr
  | .ref a :: vs, true :: ks => a :: refA vs ks
  | _ :: vs, _ :: ks => refA vs ks
  | _, _ => []
inductive RefOk (K : PySem.W.Frag) (cl : Cw) (H G : Hp) : List Addr → List D → Prop
  | nil : RefOk K cl H G [] []
  | cons {a : Addr} {d : D} {as : List Addr} {ds : List D} : G a = none → Own K cl H G a d → RefOk K cl H G as ds → RefOk K cl H G (a :: as) (d :: ds)
/-- THE PROMISE of a def whose plain function is fn -/
def SpF (K : PySem.W.Frag) (cl : Cw) (ks : List Bool) (fn : List D → FO) : Sp := fun vs H Q E => ∃ (G : Hp) (ds : List D), Sub G H ∧ ArgOk K cl H G vs ks ds ∧ (refA vs ks).Nodup ∧
  match fn ds with
  | .ret d rs => ∀ v H' G', Frm (refA vs ks) H G H' G' → RefOk K cl H' G' (refA vs ks) rs → Rep K cl G' v d → Q v H'
  | .new d rs => ∀ a H' G', Frm (refA vs ks) H G H' G' → RefOk K cl H' G' (refA vs ks) rs → H a = none → G' a = none → Own K cl H' G' a d → Q (.ref a) H'
  | .ex c ns es rs => ∀ cls dd H' G', Frm (refA vs ks) H G H' G' → RefOk K cl H' G' (refA vs ks) rs → XOk K cl G' c ns es cls dd → E cls dd H'
  | .st => False
theorem ArgOk.length {K : PySem.W.Frag} {cl : Cw} {H G : Hp} : ∀ {vs : List V} {ks : List Bool} {ds : List D}, ArgOk K cl H G vs ks ds → vs.length = ks.length ∧ ds.length = ks.length
  | _, _, _, .nil => ⟨rfl, rfl⟩
  | _, _, _, .val _ t => ⟨congrArg (· + 1) t.length.1, congrArg (· + 1) t.length.2⟩
  | _, _, _, .rf _ _ t => ⟨congrArg (· + 1) t.length.1, congrArg (· + 1) t.length.2⟩

/-! ### calls -/
/-- the arguments' data: those by reference as the slots hold them -/
def avd (δ : DEnv) : List AV → Option (List D)
  | [] => some []
  | .v d :: r => (avd δ r).map (d :: ·)
  | .r j :: r => (avd δ r).bind fun ds => (δ[j]?.bind Sl.cont).map fun d => d :: ds
def avk : List AV → List Bool
  | [] => []
  | .v _ :: r => false :: avk r
  | .r _ :: r => true :: avk r
def avj : List AV → List Nat
  | [] => []
  | .v _ :: r => avj r
  | .r j :: r => j :: avj r
/-- the new contents -/
def putR (δ : DEnv) : List Nat → List D → Option DEnv
  | [], [] => some δ
  | j :: js, d :: ds => match δ[j]? with
    | some s => putR (δ.set j (s.put d)) js ds
    | none => none
  | _, _ => none
def nodupB : List Nat → Bool
  | [] => true
  | j :: r => !r.contains j && nodupB r
def dCall (ks : List Bool) (dvs : List D) (fn : List D → FO) (fs : DA) : DE := fun δ => (fs δ).bind fun as δ1 =>
  if avk as ++ dvs.map (fun _ => false) = ks ∧ nodupB (avj as) = true then
    match avd δ1 as with
    | none => .st
    | some ds => match fn (ds ++ dvs) with
      | .ret d rs => match putR δ1 (avj as) rs with | some δ2 => .ok d δ2 | none => .st
      | .new d rs => match putR δ1 (avj as) rs with | some δ2 => .ok d δ2 | none => .st
      | .ex c ns es rs => match putR δ1 (avj as) rs with | some δ2 => .ex c ns es δ2 | none => .st
      | .st => .st
  else .st
section
variable {K : PySem.W.Frag} {cl : Cw} {hx : Addr × Option Addr} {R : List (Nat × Addr)} {H0 G0 H G H' G' : Hp} {σ : L2.St} {δ : DEnv}
theorem nodupB_ok : ∀ {js : List Nat}, nodupB js = true → js.Nodup
  | [], _ => .nil
  | j :: r, h => by
    simp only [nodupB, Bool.and_eq_true, Bool.not_eq_true', List.contains_eq_mem, decide_eq_false_iff_not] at h
    exact .cons (fun b hb e => h.1 (e ▸ hb)) (nodupB_ok h.2)
theorem args_ok (k : Ok K cl hx R H0 G0 H G σ δ) : ∀ {vs : List V} {as : List AV} {ds : List D}, AvL K cl σ G vs as → avd δ as = some ds → ArgOk K cl H G vs (avk as) ds
  | _, _, _, .nil, e => by cases e; exact .nil
  | _, _, _, .cons (a := .v d) (as := r) h t, e => by
    simp only [avd, Option.map_eq_some_iff] at e
    obtain ⟨ds, e1, rfl⟩ := e
    exact .val h (args_ok k t e1)
  | _, _, _, .cons (v := v) (a := .r j) (as := r) h t, e => by
    simp only [avd, Option.bind_eq_some_iff, Option.map_eq_some_iff] at e
    obtain ⟨ds, e1, d, ⟨s, e2, e3⟩, rfl⟩ := e
    have h : σ[j]? = some (some v) := h
    have q := k.sl j s _ e2 h
    cases s with
    | own d' =>
      cases e3
      obtain ⟨a, z, ga, _, w⟩ := q
      cases z
      exact .rf ga w (args_ok k t e1)
    | rf d' =>
      cases e3
      obtain ⟨a, z, ga, w⟩ := q
      cases z
      exact .rf ga w (args_ok k t e1)
    | un => cases e3
    | val d' => cases e3
    | exc c ns ds => cases e3
theorem args_def {vs us : List V} {ks : List Bool} {ds es : List D} (h : ArgOk K cl H G vs ks ds) (r : RepL K cl G us es) : ArgOk K cl H G (vs ++ us) (ks ++ es.map (fun _ => false)) (ds ++ es) := by
  induction h with
  | nil =>
    show ArgOk K cl H G us (es.map fun _ => false) es
    induction es generalizing us with
    | nil => cases r; exact .nil
    | cons e es ih =>
      cases r with
      | cons r1 r2 => exact .val r1 (ih r2)
  | val h _ ih => exact .val h ih
  | rf h w _ ih => exact .rf h w ih
theorem refA_def : ∀ {vs us : List V} {ks : List Bool} {ds : List D}, ArgOk K cl H G vs ks ds → ∀ (es : List D), us.length = es.length → refA (vs ++ us) (ks ++ es.map (fun _ => false)) = refA vs ks
  | _, us, _, _, .nil, es, hl => by
    show refA us (es.map fun _ => false) = []
    induction us generalizing es with
    | nil => rfl
    | cons u us ih =>
      cases es with
      | nil => cases hl
      | cons e es =>
        have := ih es (by simpa using hl)
        cases u <;> exact this
  | _, us, _, _, .val (v := v) (vs := vs) (ks := ks) h t, es, hl => by
    have ih := refA_def t es hl
    cases v <;> exact ih
  | _, us, _, _, .rf (a := a) (vs := vs) (ks := ks) h w t, es, hl => by
    have ih := refA_def t es hl
    show a :: refA (vs ++ us) (ks ++ _) = a :: refA vs ks
    rw [ih]
/-- the slots and the addresses -/
inductive JsOk (σ : L2.St) : List Nat → List Addr → Prop
  | nil : JsOk σ [] []
  | cons {j : Nat} {a : Addr} {js : List Nat} {as : List Addr} : σ[j]? = some (some (.ref a)) → JsOk σ js as → JsOk σ (j :: js) (a :: as)
theorem js_ok (k : Ok K cl hx R H0 G0 H G σ δ) : ∀ {vs : List V} {as : List AV} {ds : List D}, AvL K cl σ G vs as → avd δ as = some ds → JsOk σ (avj as) (refA vs (avk as)) ∧ ∀ j ∈ avj as, ∃ s, δ[j]? = some s ∧ isO s = true
  | _, _, _, .nil, e => ⟨.nil, fun j h => nomatch h⟩
  | _, _, _, .cons (v := v) (a := .v d) (as := r) h t, e => by
    simp only [avd, Option.map_eq_some_iff] at e
    obtain ⟨ds, e1, rfl⟩ := e
    have ih := js_ok k t e1
    cases v <;> exact ih
  | _, _, _, .cons (v := v) (a := .r j) (as := r) h t, e => by
    simp only [avd, Option.bind_eq_some_iff, Option.map_eq_some_iff] at e
    obtain ⟨ds, e1, d, ⟨s, e2, e3⟩, rfl⟩ := e
    have h : σ[j]? = some (some v) := h
    have ih := js_ok k t e1
    have q := k.sl j s _ e2 h
    have hO : isO s = true := by
      cases s with
      | own d' => rfl
      | rf d' => rfl
      | un => cases e3
      | val d' => cases e3
      | exc c ns ds => cases e3
    obtain ⟨a, d0, z, _, _⟩ := q.ex hO
    cases z
    refine ⟨.cons h ih.1, fun i hi => ?_⟩
    rcases List.mem_cons.mp hi with rfl | hi
    · exact ⟨s, e2, hO⟩
    · exact ih.2 i hi
theorem js_nodup (k : Ok K cl hx R H0 G0 H G σ δ) : ∀ {js : List Nat} {as : List Addr}, JsOk σ js as → js.Nodup → (∀ j ∈ js, ∃ s, δ[j]? = some s ∧ isO s = true) → as.Nodup
  | _, _, .nil, _, _ => .nil
  | _, _, .cons (j := j) (a := a) (js := js) (as := as) h t, nd, ho => by
    have nd' := List.nodup_cons.mp nd
    refine List.nodup_cons.mpr ⟨fun ha => ?_, js_nodup k t nd'.2 fun i hi => ho i (List.mem_cons_of_mem _ hi)⟩
    have find : ∀ {js' : List Nat} {as' : List Addr}, JsOk σ js' as' → a ∈ as' → ∃ i ∈ js', σ[i]? = some (some (.ref a)) := by
      intro js' as' q
      induction q with
      | nil => intro h; cases h
      | cons h0 t0 ih =>
        intro hm
        rcases List.mem_cons.mp hm with rfl | hm
        · exact ⟨_, List.mem_cons_self, h0⟩
        · obtain ⟨i, hi, e⟩ := ih hm
          exact ⟨i, List.mem_cons_of_mem _ hi, e⟩
    obtain ⟨i, hi, e⟩ := find t ha
    obtain ⟨s, e1, o1⟩ := ho j List.mem_cons_self
    obtain ⟨s', e2, o2⟩ := ho i (List.mem_cons_of_mem _ hi)
    have := k.sep j i s s' a e1 e2 o1 o2 h e
    exact nd'.1 (this ▸ hi)
theorem putR_len : ∀ {js : List Nat} {rs : List D} {δ δ' : DEnv}, putR δ js rs = some δ' → δ'.length = δ.length
  | [], [], δ, δ', e => by cases e; rfl
  | [], _ :: _, δ, δ', e => by cases e
  | _ :: _, [], δ, δ', e => by cases e
  | j :: js, d :: ds, δ, δ', e => by
    unfold putR at e
    cases q : δ[j]? with
    | none => rw [q] at e; cases e
    | some s => rw [q] at e; rw [putR_len e, List.length_set]
theorem putR_out : ∀ {js : List Nat} {rs : List D} {δ δ' : DEnv}, putR δ js rs = some δ' → ∀ i, i ∉ js → δ'[i]? = δ[i]?
  | [], [], δ, δ', e, i, hi => by cases e; rfl
  | [], _ :: _, δ, δ', e, i, hi => by cases e
  | _ :: _, [], δ, δ', e, i, hi => by cases e
  | j :: js, d :: ds, δ, δ', e, i, hi => by
    unfold putR at e
    cases q : δ[j]? with
    | none => rw [q] at e; cases e
    | some s =>
      rw [q] at e
      have h1 : i ≠ j := fun z => hi (z ▸ List.mem_cons_self)
      have h2 : i ∉ js := fun z => hi (List.mem_cons_of_mem _ z)
      rw [putR_out e i h2, List.getElem?_set_ne (Ne.symm h1)]
theorem putR_in : ∀ {js : List Nat} {as : List Addr} {rs : List D} {δ δ' : DEnv}, putR δ js rs = some δ' → js.Nodup → JsOk σ js as → RefOk K cl H G as rs → ∀ j ∈ js, ∃ s a d, δ[j]? = some s ∧ σ[j]? = some (some (.ref a)) ∧ δ'[j]? = some (s.put d) ∧ G a = none ∧ Own K cl H G a d ∧ a ∈ as
  | [], _, _, _, _, _, _, _, _ => fun j hj => by cases hj
  | j0 :: js, as, rs, δ, δ', e, nd, hj0, hr => by
    cases hj0 with
    | cons h0 t0 =>
    cases hr with
    | @cons a0 d as ds g0 w0 r0 =>
    unfold putR at e
    have nd' := List.nodup_cons.mp nd
    cases q : δ[j0]? with
    | none => rw [q] at e; cases e
    | some s =>
      rw [q] at e
      have hj0 : j0 < δ.length := (List.getElem?_eq_some_iff.mp q).1
      intro j hj
      rcases List.mem_cons.mp hj with z | hj
      · subst z
        exact ⟨s, _, d, q, h0, by rw [putR_out e _ nd'.1, List.getElem?_set_self hj0], g0, w0, List.mem_cons_self⟩
      · obtain ⟨s', a', d', q1, q2, q3, q4, q5, q6⟩ := putR_in e nd'.2 t0 r0 j hj
        have ne : j ≠ j0 := fun z => nd'.1 (z ▸ hj)
        rw [List.getElem?_set_ne (Ne.symm ne)] at q1
        exact ⟨s', a', d', q1, q2, q3, q4, q5, List.mem_cons_of_mem _ q6⟩
/-- behind a call -/
theorem Ok.called (k : Ok K cl hx R H0 G0 H G σ δ) {js : List Nat} {as : List Addr} {rs : List D} {δ' : DEnv} (f : Frm as H G H' G') (r : RefOk K cl H' G' as rs) (h : JsOk σ js as) (nd : js.Nodup) (ho : ∀ j ∈ js, ∃ s, δ[j]? = some s ∧ isO s = true) (e : putR δ js rs = some δ') :
    Ok K cl hx R H0 G0 H' G' σ δ' := by
  have inAs : ∀ {js' : List Nat} {as' : List Addr}, JsOk σ js' as' → ∀ a ∈ as', ∃ i ∈ js', σ[i]? = some (some (.ref a)) := by
    intro js' as' q
    induction q with
    | nil => intro a h; cases h
    | cons h0 t0 ih =>
      intro a hm
      rcases List.mem_cons.mp hm with rfl | hm
      · exact ⟨_, List.mem_cons_self, h0⟩
      · obtain ⟨i, hi, e⟩ := ih a hm
        exact ⟨i, List.mem_cons_of_mem _ hi, e⟩
  refine k.frame f (putR_len e) (fun i s e1 hO => ?_) (fun i s a e1 hO e2 => ?_) fun a ha => ?_
  · have hi : i ∉ js := fun hi => by
      obtain ⟨s', q1, q2⟩ := ho i hi
      rw [e1] at q1; cases q1
      rw [hO] at q2; cases q2
    rw [putR_out e i hi, e1]
  · by_cases hi : i ∈ js
    · obtain ⟨s', a', d, q1, q2, q3, q4, q5, _⟩ := putR_in e nd h r i hi
      rw [e1] at q1; cases q1
      rw [e2] at q2; cases q2
      exact ⟨d, q3, q4, q5⟩
    · obtain ⟨a', d, z, ga, w, sd⟩ := (k.sl i s _ e1 e2).ex hO
      cases z
      have nin : a ∉ as := fun ha => by
        obtain ⟨j, hj, ej⟩ := inAs h a ha
        obtain ⟨s', q1, q2⟩ := ho j hj
        exact hi (k.sep i j s s' a e1 q1 hO q2 e2 ej ▸ hj)
      obtain ⟨u, hu⟩ := w.ex
      refine ⟨d, by rw [putR_out e i hi, e1]; rcases sd with rfl | rfl <;> rfl, ?_, w.mono f.gk fun o z => f.kept a o z nin⟩
      cases q : G' a with
      | none => rfl
      | some u' =>
        rcases f.new a u' q with z | z
        · rw [ga] at z; cases z
        · rw [hu] at z; cases z
  · obtain ⟨i, hi, e2⟩ := inAs h a ha
    obtain ⟨s, q1, q2⟩ := ho i hi
    exact ⟨i, s, q1, q2, e2⟩
end
section
variable {c : Cf} {X : Cx} {CX' : CXT} {k : Nat} {f : Addr} {fd : FuncData} {ps : List Str} {sp : Sp} {x m : Str} {p pos apos : Pos} {e o : Expr} {es : List Expr} {ta : TE} {t : TA} {dvs : List V} {ds : List Value}
theorem run_fnD {E : L2.St → XK} {pins : List (Addr × Obj)} {σ : L2.St} {H : Hp} {s : Shared} {Q : VK} {us : List Value} {vs : List V} (F : FnOk X.prog X.w X.K X.mg X.base CX' k f fd ps sp) (hr : Room k X.A) (hb : Binds X.K fd ps ds) (hd : Vals dvs ds) (hx : PassesAt CX' X σ (E σ))
    (I : Inv X pins σ H s) (r : Vals vs us) (h : sp (vs ++ dvs) H Q (E σ)) : wpAny (model X.prog X.w) X.A (call (.ref f) us) (EP X pins σ Q) X.xe s := by
  have r2 : Vals (vs ++ dvs) (us ++ ds) := r.append hd
  have hl : (us ++ ds).length = ps.length := by rw [← r2.length]; exact F.len _ _ _ _ h
  refine wpAny_call (codeAny_mono (F.run X.A X.stack s H ⟨us, []⟩ (us ++ ds) (vs ++ dvs) Q (E σ) hr I.env0 (hb s us I.kIn hl) r2 h) fun r s' hq => ?_)
  cases r with
  | error e => exact hx pins H s e s' I hq
  | ok fl =>
    cases fl with
    | ret u => exact I.after hq
    | next => exact False.elim hq
    | brk => exact False.elim hq
    | cont => exact False.elim hq
def tCallD (sp : Sp) (dvs : List V) (E : L2.St → XK) (t : TA) : TE := fun σ H Q => t σ H fun vs H1 => sp (vs ++ dvs) H1 Q (E σ)
theorem pe_callD {E : L2.St → XK} (F : FnOk X.prog X.w X.K X.mg X.base CX' k f fd ps sp) (hr : Room k X.A) (hg : Gl X x) (hm : X.mg x = some (.ref f)) (hk : PySem.W.keepIn X.K (.ref f) = true) (hb : Binds X.K fd ps ds) (hd : Vals dvs ds) (hx : ∀ σ, PassesAt CX' X σ (E σ))
    (ha : PA X (e :: es) t) (hdb : (x == ("__debug__" : Str)) = false := by decide) (he : starEach (e :: es) X.env = (false, eval e X.env) :: starEach es X.env := by rfl) (hpl : (backTo pos (starEach es X.env)).any (·.1) = false := by rfl) :
    PE X (.Call (.Name x p) (e :: es) [] pos) (tCallD sp dvs E t) := by
  refine ⟨fun pins s σ H Q I h => ?_⟩
  refine wpAny_Call_Name_kw (ld_glob I hg hm ?_ hdb)
  refine PySem.W.callWith_K (h₀ := X.base) I.ok.mod.kin hk (thn (ha.run pos pins s σ H _ I h) fun us s1 ⟨vs, H1, I1, r, q⟩ => ⟨I1.kIn, ?_⟩) he hpl
  exact run_fnD F hr hb hd (hx σ) I1 r q
theorem pe_callD0 {E : L2.St → XK} (F : FnOk X.prog X.w X.K X.mg X.base CX' k f fd ps sp) (hr : Room k X.A) (hg : Gl X x) (hm : X.mg x = some (.ref f)) (hk : PySem.W.keepIn X.K (.ref f) = true) (hb : Binds X.K fd ps ds) (hd : Vals dvs ds) (hx : ∀ σ, PassesAt CX' X σ (E σ))
    (hdb : (x == ("__debug__" : Str)) = false := by decide) : PE X (.Call (.Name x p) [] [] pos) (tCallD sp dvs E tNil) := by
  refine ⟨fun pins s σ H Q I h => ?_⟩
  refine wpAny_Call_Name_kw (ld_glob I hg hm ?_ hdb)
  exact PySem.W.callWith_K0 I.kIn hk (run_fnD (us := []) F hr hb hd (hx σ) I .nil h)
/-- the reading of a call -/
theorem call_ok {ks : List Bool} {dds : List D} {fn : List D → FO} {fs : DA} (hd : ∀ G, RepL X.K c.cl G dvs dds) {R : List (Nat × Addr)} {H0 G0 H G : Hp} {σ : L2.St} {δ : DEnv} {Q : VK} {t : TA}
    (ha : ∀ (Q' : List V → Hp → Prop), EPost (c.fx X R H0 G0) c.W σ (AvL X.K c.cl σ) G (fs δ) Q' → t σ H Q')
    (h : EPost (c.fx X R H0 G0) c.W σ (relD X.K c.cl) G (dCall ks dds fn fs δ) Q) : tCallD (SpF X.K c.cl ks fn) dvs (WE c.W) t σ H Q := by
  refine ha _ (EPost.imp (EPost.bind h) fun vs H1 ⟨G1, as, δ1, s1, k1, r1, h1⟩ => ?_)
  by_cases hc : avk as ++ dds.map (fun _ => false) = ks ∧ nodupB (avj as) = true
  · rw [if_pos hc] at h1
    cases q : avd δ1 as with
    | none => rw [q] at h1; exact h1.elim
    | some es =>
      rw [q] at h1
      have a1 := args_ok k1 r1 q
      have hl := (hd G1).length
      have a2 := args_def a1 (hd G1)
      have e2 : refA (vs ++ dvs) ks = refA vs (avk as) := by rw [← hc.1]; exact refA_def a1 dds hl
      obtain ⟨j1, j2⟩ := js_ok k1 r1 q
      have nd := nodupB_ok hc.2
      rw [hc.1] at a2
      refine ⟨G1, es ++ dds, k1.sub, a2, by rw [e2]; exact js_nodup k1 j1 nd j2, ?_⟩
      cases qf : fn (es ++ dds) with
      | st => simp only [qf] at h1; exact h1.elim
      | ret d rs =>
        simp only [qf] at h1
        intro v H' G' fr ro rv
        rw [e2] at fr ro
        cases qp : putR δ1 (avj as) rs with
        | none => simp only [qp] at h1; exact h1.elim
        | some δ2 =>
          simp only [qp] at h1
          exact h1 v H' G' fr.gk (k1.called fr ro j1 nd j2 qp) rv
      | new d rs =>
        simp only [qf] at h1
        intro a H' G' fr ro na ga ow
        rw [e2] at fr ro
        cases qp : putR δ1 (avj as) rs with
        | none => simp only [qp] at h1; exact h1.elim
        | some δ2 =>
          simp only [qp] at h1
          have k2 := k1.called fr ro j1 nd j2 qp
          obtain ⟨G2, s2, r2, k3⟩ := k2.freezeNew ga (k1.freshH0 na) ow fun j t e o => by
            have hl2 := putR_len qp
            have hj : j < δ1.length := by rw [← hl2]; exact (List.getElem?_eq_some_iff.mp e).1
            intro z
            have e0 := List.getElem?_eq_getElem hj
            cases hO : isO δ1[j] with
            | true => exact k1.freshSl na e0 hO z
            | false =>
              have nj : j ∉ avj as := fun hm => by
                obtain ⟨s', q1, q2⟩ := j2 j hm
                rw [e0] at q1; cases q1
                rw [hO] at q2; cases q2
              rw [putR_out qp j nj, e0] at e
              cases e
              rw [hO] at o; cases o
          exact h1 (.ref a) H' G2 (fr.gk.trans s2) k3 r2
      | ex cn ns es' rs =>
        simp only [qf] at h1
        intro cls dd H' G' fr ro xo
        rw [e2] at fr ro
        cases qp : putR δ1 (avj as) rs with
        | none => simp only [qp] at h1; exact h1.elim
        | some δ2 =>
          simp only [qp] at h1
          exact h1 cls dd H' G' fr.gk (k1.called fr ro j1 nd j2 qp) xo
  · rw [if_neg hc] at h1; exact h1.elim
/-- the same, the answer a new object -/
def dCallO (ks : List Bool) (dvs : List D) (fn : List D → FO) (fs : DA) : DE := fun δ => (fs δ).bind fun as δ1 =>
  if avk as ++ dvs.map (fun _ => false) = ks ∧ nodupB (avj as) = true then
    match avd δ1 as with
    | none => .st
    | some ds => match fn (ds ++ dvs) with
      | .ret _ _ => .st
      | .new d rs => match putR δ1 (avj as) rs with | some δ2 => .ok d δ2 | none => .st
      | .ex c ns es rs => match putR δ1 (avj as) rs with | some δ2 => .ex c ns es δ2 | none => .st
      | .st => .st
  else .st
theorem callO_ok {ks : List Bool} {dds : List D} {fn : List D → FO} {fs : DA} (hd : ∀ G, RepL X.K c.cl G dvs dds) {R : List (Nat × Addr)} {H0 G0 H G : Hp} {σ : L2.St} {δ : DEnv} {Q : VK} {t : TA}
    (ha : ∀ (Q' : List V → Hp → Prop), EPost (c.fx X R H0 G0) c.W σ (AvL X.K c.cl σ) G (fs δ) Q' → t σ H Q')
    (h : FPost (c.fx X R H0 G0) c.W σ G (dCallO ks dds fn fs δ) Q) : tCallD (SpF X.K c.cl ks fn) dvs (WE c.W) t σ H Q := by
  refine ha _ (EPost.imp (FPost.bind (rel := fun _ _ _ => True) h) fun vs H1 ⟨G1, as, δ1, s1, k1, r1, h1⟩ => ?_)
  by_cases hc : avk as ++ dds.map (fun _ => false) = ks ∧ nodupB (avj as) = true
  · rw [if_pos hc] at h1
    cases q : avd δ1 as with
    | none => rw [q] at h1; exact h1.elim
    | some es =>
      rw [q] at h1
      have a1 := args_ok k1 r1 q
      have hl := (hd G1).length
      have a2 := args_def a1 (hd G1)
      have e2 : refA (vs ++ dvs) ks = refA vs (avk as) := by rw [← hc.1]; exact refA_def a1 dds hl
      obtain ⟨j1, j2⟩ := js_ok k1 r1 q
      have nd := nodupB_ok hc.2
      rw [hc.1] at a2
      refine ⟨G1, es ++ dds, k1.sub, a2, by rw [e2]; exact js_nodup k1 j1 nd j2, ?_⟩
      cases qf : fn (es ++ dds) with
      | st => simp only [qf] at h1; exact h1.elim
      | ret d rs => simp only [qf] at h1; exact h1.elim
      | new d rs =>
        simp only [qf] at h1
        intro a H' G' fr ro na ga ow
        rw [e2] at fr ro
        cases qp : putR δ1 (avj as) rs with
        | none => simp only [qp] at h1; exact h1.elim
        | some δ2 =>
          simp only [qp] at h1
          have k2 := k1.called fr ro j1 nd j2 qp
          refine h1 a H' G' fr.gk k2 ga (k1.freshH0 na) ow fun j t e o => ?_
          have hl2 := putR_len qp
          have hj : j < δ1.length := by rw [← hl2]; exact (List.getElem?_eq_some_iff.mp e).1
          intro z
          have e0 := List.getElem?_eq_getElem hj
          cases hO : isO δ1[j] with
          | true => exact k1.freshSl na e0 hO z
          | false =>
            have nj : j ∉ avj as := fun hm => by
              obtain ⟨s', q1, q2⟩ := j2 j hm
              rw [e0] at q1; cases q1
              rw [hO] at q2; cases q2
            rw [putR_out qp j nj, e0] at e
            cases e
            rw [hO] at o; cases o
      | ex cn ns es' rs =>
        simp only [qf] at h1
        intro cls dd H' G' fr ro xo
        rw [e2] at fr ro
        cases qp : putR δ1 (avj as) rs with
        | none => simp only [qp] at h1; exact h1.elim
        | some δ2 =>
          simp only [qp] at h1
          exact h1 cls dd H' G' fr.gk (k1.called fr ro j1 nd j2 qp) xo
  · rw [if_neg hc] at h1; exact h1.elim
/-- what stands for a def: at f, its promise, how it binds -/
structure DefOk (P : Program) (w : World) (K : PySem.W.Frag) (mg : Str → Option Value) (base : Heap) (cl : Cw) (k : Nat) (x : Str) (ks : List Bool) (fn : List D → FO) (f : Addr) (fd : FuncData) (ps : List Str) : Prop where
  ok : FnOk P w K mg base (L2.CX P w) k f fd ps (SpF K cl ks fn)
  mg : mg x = some (.ref f)
  kp : PySem.W.keepIn K (.ref f) = true
theorem je_call {ks : List Bool} {dds : List D} {fn : List D → FO} {fs : DA} (F : DefOk X.prog X.w X.K X.mg X.base c.cl k x ks fn f fd ps) (hr : Room k X.A) (tk : Takes X c.W) (hg : Gl X x) (hb : Binds X.K fd ps ds) (hv : Vals dvs ds) (hd : ∀ G, RepL X.K c.cl G dvs dds)
    (ha : JA c X (e :: es) fs) (hdb : (x == ("__debug__" : Str)) = false := by decide) (he : starEach (e :: es) X.env = (false, eval e X.env) :: starEach es X.env := by rfl) (hpl : (backTo pos (starEach es X.env)).any (·.1) = false := by rfl) :
    JE c X (.Call (.Name x p) (e :: es) [] pos) (dCall ks dds fn fs) :=
  je_of (pe_callD F.ok hr hg F.mg F.kp hb hv (fun σ => passAt tk σ) (paS X (e :: es)) hdb he hpl) fun R H0 G0 H G σ δ Q k h => call_ok hd (fun Q' h' => ha R H0 G0 H G σ δ Q' k h') h
theorem jf_call {ks : List Bool} {dds : List D} {fn : List D → FO} {fs : DA} (F : DefOk X.prog X.w X.K X.mg X.base c.cl k x ks fn f fd ps) (hr : Room k X.A) (tk : Takes X c.W) (hg : Gl X x) (hb : Binds X.K fd ps ds) (hv : Vals dvs ds) (hd : ∀ G, RepL X.K c.cl G dvs dds)
    (ha : JA c X (e :: es) fs) (hdb : (x == ("__debug__" : Str)) = false := by decide) (he : starEach (e :: es) X.env = (false, eval e X.env) :: starEach es X.env := by rfl) (hpl : (backTo pos (starEach es X.env)).any (·.1) = false := by rfl) :
    JF c X (.Call (.Name x p) (e :: es) [] pos) (dCallO ks dds fn fs) := fun R H0 G0 H G σ δ Q k h pins s I =>
  (pe_callD F.ok hr hg F.mg F.kp hb hv (fun σ => passAt tk σ) (paS X (e :: es)) hdb he hpl).run pins s σ H Q I (callO_ok hd (fun Q' h' => ha R H0 G0 H G σ δ Q' k h') h)
theorem DefOk.mono {P : Program} {w : World} {K : PySem.W.Frag} {mg : Str → Option Value} {base : Heap} {cl : Cw} {j k : Nat} {x : Str} {ks : List Bool} {fn : List D → FO} {f : Addr} {fd : FuncData} {ps : List Str} (F : DefOk P w K mg base cl j x ks fn f fd ps) (h : j ≤ k) : DefOk P w K mg base cl k x ks fn f fd ps := ⟨F.ok.mono h, F.mg, F.kp⟩
theorem je_call0 {ks : List Bool} {dds : List D} {fn : List D → FO} (F : DefOk X.prog X.w X.K X.mg X.base c.cl k x ks fn f fd ps) (hr : Room k X.A) (tk : Takes X c.W) (hg : Gl X x) (hb : Binds X.K fd ps ds) (hv : Vals dvs ds) (hd : ∀ G, RepL X.K c.cl G dvs dds)
    (hdb : (x == ("__debug__" : Str)) = false := by decide) : JE c X (.Call (.Name x p) [] [] pos) (dCall ks dds fn dNil) :=
  je_of (pe_callD0 F.ok hr hg F.mg F.kp hb hv (fun σ => passAt tk σ) hdb) fun R H0 G0 H G σ δ Q k h => call_ok hd (fs := dNil) (fun Q' (h' : ∀ b H' G', _ → _ → _ → _) => h' [] H G (.refl G) k .nil) h
end
end DL

set_option maxRecDepth 100000
set_option maxHeartbeats 4000000
namespace DL
open PySem PySem.Spec PyProof.Rows L2

/-! ### statements -/
def SPost (f : Fx) (W : WX) (G : Hp) (o : SO) (D' : Ends) : Prop := match o with
  | .nx δ => ∀ σ' H' G', Sub G G' → f.Ok H' G' σ' δ → D'.nx σ' H'
  | .rt d δ => ∀ v σ' H' G', Sub G G' → f.Ok H' G' σ' δ → Rep f.K f.cl G' v d → D'.rt v H'
  | .ro d δ => ∀ a σ' H' G', Sub G G' → f.Ok H' G' σ' δ → f.H0 a = none → G' a = none → Own f.K f.cl H' G' a d → D'.rt (.ref a) H'
  | .bk δ => ∀ σ' H' G', Sub G G' → f.Ok H' G' σ' δ → D'.bk σ' H'
  | .ct δ => ∀ σ' H' G', Sub G G' → f.Ok H' G' σ' δ → D'.ct σ' H'
  | .ex c ns ds δ => ∀ cls dd σ' H' G', Sub G G' → f.Ok H' G' σ' δ → XOk f.K f.cl G' c ns ds cls dd → W cls dd σ' H'
  | .st => False
theorem SPost.weak {f : Fx} {W : WX} {G G' : Hp} {o : SO} {D' : Ends} (s : Sub G G') (h : SPost f W G o D') : SPost f W G' o D' := by
  cases o with
  | nx δ => exact fun σ' H' G'' s' => h σ' H' G'' (s.trans s')
  | rt d δ => exact fun v σ' H' G'' s' => h v σ' H' G'' (s.trans s')
  | ro d δ => exact fun a σ' H' G'' s' => h a σ' H' G'' (s.trans s')
  | bk δ => exact fun σ' H' G'' s' => h σ' H' G'' (s.trans s')
  | ct δ => exact fun σ' H' G'' s' => h σ' H' G'' (s.trans s')
  | ex c ns ds δ => exact fun cls dd σ' H' G'' s' => h cls dd σ' H' G'' (s.trans s')
  | st => exact h
def JS (c : Cf) (X : Cx) (st : Stmt) (F : DS) : Prop := ∀ (R : List (Nat × Addr)) (H0 G0 H G : Hp) (σ : L2.St) (δ : DEnv) (D' : Ends), (c.fx X R H0 G0).Ok H G σ δ → SPost (c.fx X R H0 G0) c.W G (F δ) D' → tS X st D' σ H
def JSs (c : Cf) (X : Cx) (st : List Stmt) (F : DS) : Prop := ∀ (R : List (Nat × Addr)) (H0 G0 H G : Hp) (σ : L2.St) (δ : DEnv) (D' : Ends), (c.fx X R H0 G0).Ok H G σ δ → SPost (c.fx X R H0 G0) c.W G (F δ) D' → tSs X st D' σ H
def EO.to {α : Type} (o : EO α) (k : α → DEnv → SO) : SO := match o with
  | .ok a δ => k a δ
  | .ex c ns ds δ => .ex c ns ds δ
  | .st => .st
def SO.then (o : SO) (k : DEnv → SO) : SO := match o with
  | .nx δ => k δ
  | o => o
theorem SPost.ofE {α β : Type} {f : Fx} {W : WX} {σ : L2.St} {rel : Hp → β → α → Prop} {G : Hp} {o : EO α} {k : α → DEnv → SO} {D' : Ends} (h : SPost f W G (o.to k) D') :
    EPost f W σ rel G o (fun b H1 => ∃ G1 a δ1, Sub G G1 ∧ f.Ok H1 G1 σ δ1 ∧ rel G1 b a ∧ SPost f W G1 (k a δ1) D') := by
  cases o with
  | ok a δ => exact fun b H' G' s k' r => ⟨G', a, δ, s, k', r, SPost.weak s h⟩
  | ex c ns ds δ => exact fun cls dd H' G' s k' x => h cls dd σ H' G' s k' x
  | st => exact h
theorem SPost.ofF {f : Fx} {W : WX} {σ : L2.St} {G : Hp} {o : EO D} {k : D → DEnv → SO} {D' : Ends} (h : SPost f W G (o.to k) D') :
    FPost f W σ G o (fun v H1 => ∃ a G1 d δ1, v = .ref a ∧ Sub G G1 ∧ f.Ok H1 G1 σ δ1 ∧ G1 a = none ∧ f.H0 a = none ∧ Own f.K f.cl H1 G1 a d ∧ (∀ (j : Nat) (t : Sl), δ1[j]? = some t → isO t = true → σ[j]? ≠ some (some (.ref a))) ∧ SPost f W G1 (k d δ1) D') := by
  cases o with
  | ok d δ => exact fun a H' G' s k' ga h0 w hs => ⟨a, G', d, δ, rfl, s, k', ga, h0, w, hs, SPost.weak s h⟩
  | ex c ns ds δ => exact fun cls dd H' G' s k' x => h cls dd σ H' G' s k' x
  | st => exact h
def sNil : DS := fun δ => .nx δ
def sSeq (f g : DS) : DS := fun δ => (f δ).then g
def sExpr (f : DE) : DS := fun δ => (f δ).to fun _ δ1 => .nx δ1
def sRet (f : DE) : DS := fun δ => (f δ).to fun d δ1 => .rt d δ1
def sRetO (f : DE) : DS := fun δ => (f δ).to fun d δ1 => .ro d δ1
def sRetN : DS := fun δ => .rt .non δ
def sIf (t : DT) (f g : DS) : DS := fun δ => (t δ).to fun b δ1 => if b = true then f δ1 else g δ1
/-- a plain value into slot i -/
def setV (i : Nat) (d : D) (δ : DEnv) : Option DEnv := match δ[i]? with
  | some (.rf _) => none
  | some _ => some (δ.set i (.val d))
  | none => none
def setO (i : Nat) (d : D) (δ : DEnv) : Option DEnv := match δ[i]? with
  | some (.rf _) => none
  | some _ => some (δ.set i (.own d))
  | none => none
def oNx : Option DEnv → SO
  | some δ => .nx δ
  | none => .st
def sSet (i : Nat) (f : DE) : DS := fun δ => (f δ).to fun d δ1 => oNx (setV i d δ1)
def sSetO (i : Nat) (f : DE) : DS := fun δ => (f δ).to fun d δ1 => oNx (setO i d δ1)
section
variable {K : PySem.W.Frag} {cl : Cw} {hx : Addr × Option Addr} {R : List (Nat × Addr)} {H0 G0 H G H' G' : Hp} {σ : L2.St} {δ : DEnv}
theorem Ok.setV (k : Ok K cl hx R H0 G0 H G σ δ) {i : Nat} {v : V} {d : D} {δ' : DEnv} (e : DL.setV i d δ = some δ') (r : Rep K cl G v d) : Ok K cl hx R H0 G0 H G (σ.set i (some v)) δ' := by
  unfold DL.setV at e
  cases q : δ[i]? with
  | none => rw [q] at e; cases e
  | some s =>
    rw [q] at e
    have go : (∀ d, s ≠ .rf d) → some (δ.set i (.val d)) = some δ' → Ok K cl hx R H0 G0 H G (σ.set i (some v)) δ' := fun hn e => by
      cases e
      exact k.set q hn ⟨v, rfl, r⟩ (fun d z => nomatch z) (fun a o _ => nomatch o)
    cases s with
    | rf d => cases e
    | un => exact go (fun d z => nomatch z) e
    | val d => exact go (fun d z => nomatch z) e
    | own d => exact go (fun d z => nomatch z) e
    | exc c ns ds => exact go (fun d z => nomatch z) e
theorem Ok.setO (k : Ok K cl hx R H0 G0 H G σ δ) {i : Nat} {a : Addr} {d : D} {δ' : DEnv} (e : DL.setO i d δ = some δ') (ga : G a = none) (h0 : H0 a = none) (w : Own K cl H G a d)
    (hs : ∀ (j : Nat) (t : Sl), δ[j]? = some t → isO t = true → σ[j]? ≠ some (some (.ref a))) : Ok K cl hx R H0 G0 H G (σ.set i (some (.ref a))) δ' := by
  unfold DL.setO at e
  cases q : δ[i]? with
  | none => rw [q] at e; cases e
  | some s =>
    rw [q] at e
    have go : (∀ d, s ≠ .rf d) → some (δ.set i (.own d)) = some δ' → Ok K cl hx R H0 G0 H G (σ.set i (some (.ref a))) δ' := fun hn e => by
      cases e
      exact k.set q hn ⟨a, rfl, ga, h0, w⟩ (fun d z => nomatch z) (fun b o z j t e1 o1 => by cases z; exact hs j t e1 o1)
    cases s with
    | rf d => cases e
    | un => exact go (fun d z => nomatch z) e
    | val d => exact go (fun d z => nomatch z) e
    | own d => exact go (fun d z => nomatch z) e
    | exc c ns ds => exact go (fun d z => nomatch z) e
end
section
variable {c : Cf} {X : Cx} {st : Stmt} {rest : List Stmt} {f g : DS} {e : Expr} {fe : DE} {ft : DT} {pos : Pos}
theorem js_of {t : TS} {F : DS} (p : PS X st t) (h : ∀ (R : List (Nat × Addr)) (H0 G0 H G : Hp) (σ : L2.St) (δ : DEnv) (D' : Ends), (c.fx X R H0 G0).Ok H G σ δ → SPost (c.fx X R H0 G0) c.W G (F δ) D' → t D' σ H) : JS c X st F :=
  fun R H0 G0 H G σ δ D' k h' pins s I => p.run pins s σ H D' I (h R H0 G0 H G σ δ D' k h')
theorem jss_of {sts : List Stmt} {t : TS} {F : DS} (p : PSs X sts t) (h : ∀ (R : List (Nat × Addr)) (H0 G0 H G : Hp) (σ : L2.St) (δ : DEnv) (D' : Ends), (c.fx X R H0 G0).Ok H G σ δ → SPost (c.fx X R H0 G0) c.W G (F δ) D' → t D' σ H) : JSs c X sts F :=
  fun R H0 G0 H G σ δ D' k h' pins s I => p.run pins s σ H D' I (h R H0 G0 H G σ δ D' k h')
theorem jss_nil : JSs c X [] sNil := jss_of pss_nil fun R H0 G0 H G σ δ D' k h => h σ H G (.refl G) k
theorem jss_cons (h1 : JS c X st f) (h2 : JSs c X rest g) : JSs c X (st :: rest) (sSeq f g) := by
  refine jss_of (pss_cons (psS X st) (pssS X rest)) fun R H0 G0 H G σ δ D' k h => ?_
  refine h1 R H0 G0 H G σ δ _ k ?_
  have h : SPost (c.fx X R H0 G0) c.W G ((f δ).then g) D' := h
  cases q : f δ with
  | nx δ1 =>
    rw [q] at h
    intro σ' H' G' s k'
    exact h2 R H0 G0 H' G' σ' δ1 D' k' (SPost.weak s h)
  | rt d δ1 => rw [q] at h; exact h
  | ro d δ1 => rw [q] at h; exact h
  | bk δ1 => rw [q] at h; exact h
  | ct δ1 => rw [q] at h; exact h
  | ex cn ns ds δ1 => rw [q] at h; exact h
  | st => rw [q] at h; exact h
theorem jss_one (h1 : JS c X st f) : JSs c X [st] f := jss_of (pss_one (psS X st)) fun R H0 G0 H G σ δ D' k h => h1 R H0 G0 H G σ δ D' k h
theorem js_pass : JS c X (.Pass pos) sNil := js_of ps_pass fun R H0 G0 H G σ δ D' k h => h σ H G (.refl G) k
theorem js_break : JS c X (.Break pos) (fun δ => .bk δ) := js_of ps_break fun R H0 G0 H G σ δ D' k h => h σ H G (.refl G) k
theorem js_continue : JS c X (.Continue pos) (fun δ => .ct δ) := js_of ps_continue fun R H0 G0 H G σ δ D' k h => h σ H G (.refl G) k
theorem js_expr (he : JE c X e fe) (hs : swapsWith e none pos.line X.env = pure false := by rfl) : JS c X (.Expr e pos) (sExpr fe) :=
  js_of (ps_expr (peS X e) hs) fun R H0 G0 H G σ δ D' k h => he R H0 G0 H G σ δ _ k (EPost.imp (SPost.ofE h) fun x H1 ⟨G1, d, δ1, s1, k1, r1, h1⟩ => h1 σ H1 G1 (.refl G1) k1)
theorem js_ret (he : JE c X e fe) : JS c X (.Return (some e) pos) (sRet fe) :=
  js_of (ps_ret (peS X e)) fun R H0 G0 H G σ δ D' k h => he R H0 G0 H G σ δ _ k (EPost.imp (SPost.ofE h) fun x H1 ⟨G1, d, δ1, s1, k1, r1, h1⟩ => h1 x σ H1 G1 (.refl G1) k1 r1)
theorem js_retO (he : JF c X e fe) : JS c X (.Return (some e) pos) (sRetO fe) :=
  js_of (ps_ret (peS X e)) fun R H0 G0 H G σ δ D' k h => he R H0 G0 H G σ δ _ k (by
    have h' := SPost.ofF (σ := σ) h
    cases q : fe δ with
    | st => rw [q] at h'; exact h'
    | ex cn ns ds δ1 => rw [q] at h'; exact h'
    | ok d δ1 =>
      rw [q] at h'
      intro a H1 G1 s1 k1 ga h0 w hs'
      obtain ⟨a', G2, d', δ2, ea, s2, k2, ga2, h02, w2, hs2, h1⟩ := h' a H1 G1 s1 k1 ga h0 w hs'
      cases ea
      exact h1 a σ H1 G2 (.refl G2) k2 h02 ga2 w2)
theorem js_retN : JS c X (.Return none pos) sRetN := js_of ps_retN fun R H0 G0 H G σ δ D' k h => h .non σ H G (.refl G) k .non
theorem js_if {t : Expr} {a b : List Stmt} (ht : JT c X t ft) (ha : JSs c X a f) (hb : JSs c X b g) : JS c X (.If t a b pos) (sIf ft f g) := by
  refine js_of (ps_if (ptS X t) (pssS X a) (pssS X b)) fun R H0 G0 H G σ δ D' k h => ?_
  refine ht R H0 G0 H G σ δ _ k (EPost.imp (SPost.ofE h) fun x H1 ⟨G1, b', δ1, s1, k1, r1, h1⟩ => ?_)
  have r1 : x = b' := r1
  subst r1
  cases x with
  | true => exact ha R H0 G0 H1 G1 σ δ1 D' k1 h1
  | false => exact hb R H0 G0 H1 G1 σ δ1 D' k1 h1
theorem js_set {i : Nat} {x : Str} {pos' : Pos} (hN : X.N.Nodup) (hi : X.N[i]? = some x) (hx : Loc X.env.scope x) (he : JE c X e fe) (hs : swapsWith e (some (.Name x pos')) pos.line X.env = pure false := by rfl)
    (hf : X.fn x = true ∨ X.env.scope.names.lookup x = some .local := by first | exact .inl rfl | exact .inr rfl | assumption) : JS c X (.Assign [.Name x pos'] e pos) (sSet i fe) :=
  js_of (ps_set hN hi hx (peS X e) hs hf) fun R H0 G0 H G σ δ D' k h => he R H0 G0 H G σ δ _ k (EPost.imp (SPost.ofE h) fun v H1 ⟨G1, d, δ1, s1, k1, r1, h1⟩ => by
    cases q : setV i d δ1 with
    | none => rw [q] at h1; exact h1.elim
    | some δ2 => rw [q] at h1; exact h1 _ H1 G1 (.refl G1) (k1.setV q r1))
theorem js_setO {i : Nat} {x : Str} {pos' : Pos} (hN : X.N.Nodup) (hi : X.N[i]? = some x) (hx : Loc X.env.scope x) (he : JF c X e fe) (hs : swapsWith e (some (.Name x pos')) pos.line X.env = pure false := by rfl)
    (hf : X.fn x = true ∨ X.env.scope.names.lookup x = some .local := by first | exact .inl rfl | exact .inr rfl | assumption) : JS c X (.Assign [.Name x pos'] e pos) (sSetO i fe) :=
  js_of (ps_set hN hi hx (peS X e) hs hf) fun R H0 G0 H G σ δ D' k h => he R H0 G0 H G σ δ _ k (by
    have h' := SPost.ofF (σ := σ) h
    cases q : fe δ with
    | st => rw [q] at h'; exact h'
    | ex cn ns ds δ1 => rw [q] at h'; exact h'
    | ok d δ1 =>
      rw [q] at h'
      intro a H1 G1 s1 k1 ga h0 w hs'
      obtain ⟨a', G2, d', δ2, ea, s2, k2, ga2, h02, w2, hs2, h1⟩ := h' a H1 G1 s1 k1 ga h0 w hs'
      cases ea
      cases q2 : setO i d' δ2 with
      | none => rw [q2] at h1; exact h1.elim
      | some δ3 => rw [q2] at h1; exact h1 _ H1 G2 (.refl G2) (k2.setO q2 ga2 h02 w2 hs2))
end

/-! ### a def by its body -/
def mkEnv : List Bool → List D → Nat → DEnv
  | true :: ks, d :: ds, n => .rf d :: mkEnv ks ds (n - 1)
  | false :: ks, d :: ds, n => .val d :: mkEnv ks ds (n - 1)
  | _, _, n => List.replicate n .un
def endR : List Bool → DEnv → Option (List D)
  | true :: ks, s :: δ => (endR ks δ).bind fun r => (s.cont).map fun d => d :: r
  | false :: ks, _ :: δ => endR ks δ
  | [], _ => some []
  | _ :: _, [] => none
def toFO (ks : List Bool) : SO → FO
  | .nx δ => match endR ks δ with | some rs => .ret .non rs | none => .st
  | .rt d δ => match endR ks δ with | some rs => .ret d rs | none => .st
  | .ro d δ => match endR ks δ with | some rs => .new d rs | none => .st
  | .ex c ns ds δ => match endR ks δ with | some rs => .ex c ns ds rs | none => .st
  | _ => .st
/-- the def's function: n names -/
def defF (ks : List Bool) (n : Nat) (F : DS) (ds : List D) : FO := if ds.length = ks.length then toFO ks (F (mkEnv ks ds n)) else .st
/-- the by-reference parameters' slots, from slot i on -/
def refS : List V → List Bool → Nat → List (Nat × Addr)
  | .ref a :: vs, true :: ks, i => (i, a) :: refS vs ks (i + 1)
  | _ :: vs, _ :: ks, i => refS vs ks (i + 1)
  | _, _, _ => []
section
variable {K : PySem.W.Frag} {cl : Cw} {hx : Addr × Option Addr} {H G : Hp}
theorem refS_addr : ∀ {vs : List V} {ks : List Bool} {i : Nat}, (refS vs ks i).map (·.2) = refA vs ks
  | [], [], i => rfl
  | [], k :: ks, i => by cases k <;> rfl
  | v :: vs, [], i => by cases v <;> rfl
  | v :: vs, k :: ks, i => by
    have ih := refS_addr (vs := vs) (ks := ks) (i := i + 1)
    cases k with
    | true =>
      cases v with
      | ref a => show a :: _ = a :: _; rw [ih]
      | _ => exact ih
    | false => cases v <;> exact ih
/-- the state at the entry, from slot i on -/
theorem entry : ∀ {vs : List V} {ks : List Bool} {ds : List D}, ArgOk K cl H G vs ks ds → ∀ (n : Nat), ks.length ≤ n →
    (vs.map some ++ List.replicate (n - vs.length) (none : Option V)).length = (mkEnv ks ds n).length ∧
    (∀ (j : Nat) (s : Sl) (x : Option V), (mkEnv ks ds n)[j]? = some s → (vs.map some ++ List.replicate (n - vs.length) (none : Option V))[j]? = some x → SlOk K cl hx H H G x s ∧ (isO s = true → ∃ a d, s = .rf d ∧ x = some (.ref a) ∧ ∀ i, (i + j, a) ∈ refS vs ks i)) ∧
    (∀ i p, p ∈ refS vs ks i → i ≤ p.1 ∧ H p.2 ≠ none ∧ G p.2 = none ∧ ∃ d, (mkEnv ks ds n)[p.1 - i]? = some (.rf d) ∧ (vs.map some ++ List.replicate (n - vs.length) (none : Option V))[p.1 - i]? = some (some (.ref p.2)))
  | _, _, _, .nil, n, hn => by
    refine ⟨by simp [mkEnv], fun j s x e1 e2 => ?_, fun i p hp => by cases hp⟩
    have e1 : (List.replicate n Sl.un)[j]? = some s := e1
    rw [List.getElem?_replicate] at e1
    split at e1
    · cases e1; exact ⟨trivial, fun z => nomatch z⟩
    · cases e1
  | _, _, _, .val (v := v) (d := d) (vs := vs) (ks := ks) (ds := ds) h t, n, hn => by
    have hn' : ks.length ≤ n - 1 := by simp only [List.length_cons] at hn; omega
    obtain ⟨i1, i2, i3⟩ := entry t (n - 1) hn'
    have e0 : n - (v :: vs).length = n - 1 - vs.length := by simp only [List.length_cons]; omega
    rw [e0]
    refine ⟨by simpa [mkEnv] using i1, fun j s x e1 e2 => ?_, fun i p hp => ?_⟩
    · cases j with
      | zero =>
        have e1 : some (Sl.val d) = some s := e1
        have e2 : some (some v) = some x := e2
        cases e1; cases e2
        exact ⟨⟨v, rfl, h⟩, fun z => nomatch z⟩
      | succ j =>
        obtain ⟨q1, q2⟩ := i2 j s x (by simpa [mkEnv] using e1) (by simpa using e2)
        refine ⟨q1, fun z => ?_⟩
        obtain ⟨a, d', y1, y2, y3⟩ := q2 z
        refine ⟨a, d', y1, y2, fun i => ?_⟩
        have := y3 (i + 1)
        rw [show i + (j + 1) = i + 1 + j by omega]
        cases v <;> exact this
    · have hp' : p ∈ refS vs ks (i + 1) := by cases v <;> exact hp
      obtain ⟨q1, q2, q3, d', q4, q5⟩ := i3 (i + 1) p hp'
      refine ⟨by omega, q2, q3, d', ?_, ?_⟩
      · rw [show p.1 - i = (p.1 - (i + 1)) + 1 by omega]; simpa [mkEnv] using q4
      · rw [show p.1 - i = (p.1 - (i + 1)) + 1 by omega]; simpa using q5
  | _, _, _, .rf (a := a) (d := d) (vs := vs) (ks := ks) (ds := ds) ga w t, n, hn => by
    have hn' : ks.length ≤ n - 1 := by simp only [List.length_cons] at hn; omega
    obtain ⟨i1, i2, i3⟩ := entry t (n - 1) hn'
    have e0 : n - (V.ref a :: vs).length = n - 1 - vs.length := by simp only [List.length_cons]; omega
    rw [e0]
    refine ⟨by simpa [mkEnv] using i1, fun j s x e1 e2 => ?_, fun i p hp => ?_⟩
    · cases j with
      | zero =>
        have e1 : some (Sl.rf d) = some s := e1
        have e2 : some (some (V.ref a)) = some x := e2
        cases e1; cases e2
        exact ⟨⟨a, rfl, ga, w⟩, fun z => ⟨a, d, rfl, rfl, fun i => List.mem_cons_self⟩⟩
      | succ j =>
        obtain ⟨q1, q2⟩ := i2 j s x (by simpa [mkEnv] using e1) (by simpa using e2)
        refine ⟨q1, fun z => ?_⟩
        obtain ⟨a', d', y1, y2, y3⟩ := q2 z
        refine ⟨a', d', y1, y2, fun i => ?_⟩
        have := y3 (i + 1)
        rw [show i + (j + 1) = i + 1 + j by omega]
        exact List.mem_cons_of_mem _ this
    · rcases List.mem_cons.mp (show p ∈ (i, a) :: refS vs ks (i + 1) from hp) with rfl | hp'
      · obtain ⟨u, hu⟩ := w.ex
        refine ⟨Nat.le_refl _, (by show H a ≠ none; rw [hu]; simp), ga, d, ?_, ?_⟩
        · rw [Nat.sub_self]; rfl
        · rw [Nat.sub_self]; rfl
      · obtain ⟨q1, q2, q3, d', q4, q5⟩ := i3 (i + 1) p hp'
        refine ⟨by omega, q2, q3, d', ?_, ?_⟩
        · rw [show p.1 - i = (p.1 - (i + 1)) + 1 by omega]; simpa [mkEnv] using q4
        · rw [show p.1 - i = (p.1 - (i + 1)) + 1 by omega]; simpa using q5
theorem refS_ge : ∀ {vs : List V} {ks : List Bool} {i : Nat} {p : Nat × Addr}, p ∈ refS vs ks i → i ≤ p.1
  | [], ks, i, p, h => by cases ks <;> cases h
  | v :: vs, [], i, p, h => by cases v <;> cases h
  | v :: vs, k :: ks, i, p, h => by
    have ih : p ∈ refS vs ks (i + 1) → i ≤ p.1 := fun z => Nat.le_of_succ_le (refS_ge z)
    cases k with
    | true =>
      cases v with
      | ref a =>
        rcases List.mem_cons.mp (show p ∈ (i, a) :: refS vs ks (i + 1) from h) with rfl | h
        · exact Nat.le_refl _
        · exact ih h
      | _ => exact ih h
    | false => cases v <;> exact ih h
theorem refS_uniq : ∀ {vs : List V} {ks : List Bool} {i : Nat}, (refA vs ks).Nodup → ∀ {p q : Nat × Addr}, p ∈ refS vs ks i → q ∈ refS vs ks i → p.2 = q.2 → p.1 = q.1
  | [], ks, i, _, p, q, h, _, _ => by cases ks <;> cases h
  | v :: vs, [], i, _, p, q, h, _, _ => by cases v <;> cases h
  | v :: vs, k :: ks, i, nd, p, q, hp, hq, e => by
    have sk : refS (v :: vs) (k :: ks) i = refS vs ks (i + 1) → refA (v :: vs) (k :: ks) = refA vs ks → p.1 = q.1 := fun z1 z2 => by
      rw [z1] at hp hq; rw [z2] at nd
      exact refS_uniq nd hp hq e
    cases k with
    | true =>
      cases v with
      | ref a =>
        have nd' := List.nodup_cons.mp (show (a :: refA vs ks).Nodup from nd)
        have mem : ∀ {r : Nat × Addr}, r ∈ refS vs ks (i + 1) → r.2 ∈ refA vs ks := fun {r} hr => by rw [← refS_addr (i := i + 1)]; exact List.mem_map_of_mem hr
        rcases List.mem_cons.mp (show p ∈ (i, a) :: refS vs ks (i + 1) from hp) with rfl | hp
        · rcases List.mem_cons.mp (show q ∈ (i, a) :: refS vs ks (i + 1) from hq) with rfl | hq
          · rfl
          · have z := mem hq; rw [← show a = q.2 from e] at z; exact absurd z nd'.1
        · rcases List.mem_cons.mp (show q ∈ (i, a) :: refS vs ks (i + 1) from hq) with rfl | hq
          · have z := mem hp; rw [show p.2 = a from e] at z; exact absurd z nd'.1
          · exact refS_uniq nd'.2 hp hq e
      | _ => exact sk rfl rfl
    | false => cases v <;> exact sk rfl rfl
theorem entry_ok {vs : List V} {ks : List Bool} {ds : List D} (s : Sub G H) (h : ArgOk K cl H G vs ks ds) (nd : (refA vs ks).Nodup) {n : Nat} (hn : ks.length ≤ n) :
    Ok K cl hx (refS vs ks 0) H G H G (vs.map some ++ List.replicate (n - vs.length) (none : Option V)) (mkEnv ks ds n) := by
  obtain ⟨i1, i2, i3⟩ := entry (hx := hx) h n hn
  refine ⟨i1, s, .refl G, fun b o e => .inl e, fun b o e _ => e, fun p hp => ?_, fun i s x e1 e2 => (i2 i s x e1 e2).1, fun i j s t a e1 e2 o1 o2 s1 s2 => ?_, fun p hp => ?_, fun i d e => ?_⟩
  · obtain ⟨_, q2, q3, _⟩ := i3 0 p hp
    exact ⟨q2, q3⟩
  · obtain ⟨a1, d1, _, z1, m1⟩ := (i2 i s _ e1 s1).2 o1
    obtain ⟨a2, d2, _, z2, m2⟩ := (i2 j t _ e2 s2).2 o2
    cases z1; cases z2
    have := refS_uniq nd (m1 0) (m2 0) rfl
    simpa using this
  · obtain ⟨_, _, _, d, q4, q5⟩ := i3 0 p hp
    exact ⟨d, by simpa using q4, by simpa using q5⟩
  · have hi : i < (vs.map some ++ List.replicate (n - vs.length) (none : Option V)).length := by rw [i1]; exact (List.getElem?_eq_some_iff.mp e).1
    obtain ⟨a, d', _, _, m⟩ := (i2 i _ _ e (List.getElem?_eq_getElem hi)).2 rfl
    exact ⟨(0 + i, a), m 0, by simp⟩
/-- the contents at the end -/
theorem end_ok {R : List (Nat × Addr)} {H0 G0 : Hp} {σ : L2.St} {δ : DEnv} (k : Ok K cl hx R H0 G0 H G σ δ) : ∀ (vs : List V) (ks : List Bool) (i : Nat) (rs : List D), vs.length = ks.length → (∀ p ∈ refS vs ks i, p ∈ R) → (∀ (j : Nat), ks[j]? = some true → ∃ a, vs[j]? = some (V.ref a)) → endR ks (δ.drop i) = some rs → RefOk K cl H G (refA vs ks) rs
  | [], [], i, rs, _, _, _, e => by cases e; exact .nil
  | [], _ :: _, i, rs, hl, _, _, _ => by cases hl
  | _ :: _, [], i, rs, hl, _, _, _ => by cases hl
  | v :: vs, b :: ks, i, rs, hl, hR, hv, e => by
    have hl' : vs.length = ks.length := by simpa using hl
    have hv' : ∀ (j : Nat), ks[j]? = some true → ∃ a, vs[j]? = some (V.ref a) := fun j hj => by
      obtain ⟨a, ha⟩ := hv (j + 1) (by simpa using hj)
      exact ⟨a, by simpa using ha⟩
    cases q : δ.drop i with
    | nil => rw [q] at e; cases b <;> cases e
    | cons s r =>
      rw [q] at e
      have hs : δ[i]? = some s := by
        have : (δ.drop i)[0]? = some s := by rw [q]; rfl
        rw [List.getElem?_drop] at this
        simpa using this
      have hr : δ.drop (i + 1) = r := by
        have : (δ.drop i).drop 1 = r := by rw [q]; rfl
        rw [List.drop_drop] at this
        exact this
      cases b with
      | false =>
        have e : endR ks r = some rs := e
        have hR' : ∀ p ∈ refS vs ks (i + 1), p ∈ R := fun p hp => hR p (by cases v <;> exact hp)
        have := end_ok k vs ks (i + 1) rs hl' hR' hv' (by rw [hr]; exact e)
        cases v <;> exact this
      | true =>
        obtain ⟨a, ha⟩ := hv 0 rfl
        have ha : v = .ref a := by simpa using ha
        subst ha
        simp only [endR, Option.bind_eq_some_iff, Option.map_eq_some_iff] at e
        obtain ⟨rs', e1, d, e2, rfl⟩ := e
        have hR' : ∀ p ∈ refS vs ks (i + 1), p ∈ R := fun p hp => hR p (List.mem_cons_of_mem _ hp)
        have ih := end_ok k vs ks (i + 1) rs' hl' hR' hv' (by rw [hr]; exact e1)
        have hp : (i, a) ∈ R := hR (i, a) List.mem_cons_self
        obtain ⟨d', q1, q2⟩ := k.refs (i, a) hp
        have q1 : δ[i]? = some (.rf d') := q1
        rw [hs] at q1
        cases q1
        cases e2
        obtain ⟨a', z, ga, w⟩ := k.sl i _ _ hs q2
        cases z
        exact .cons ga w ih
theorem ArgOk.refs {vs : List V} {ks : List Bool} {ds : List D} (h : ArgOk K cl H G vs ks ds) : ∀ (j : Nat), ks[j]? = some true → ∃ a, vs[j]? = some (V.ref a) := by
  induction h with
  | nil => intro j hj; cases hj
  | val _ _ ih =>
    intro j hj
    cases j with
    | zero => cases hj
    | succ j =>
      obtain ⟨a, ha⟩ := ih j (by simpa using hj)
      exact ⟨a, by simpa using ha⟩
  | rf _ _ _ ih =>
    intro j hj
    cases j with
    | zero => exact ⟨_, rfl⟩
    | succ j =>
      obtain ⟨a, ha⟩ := ih j (by simpa using hj)
      exact ⟨a, by simpa using ha⟩
/-- the step that a def was -/
theorem Ok.frm {vs : List V} {ks : List Bool} {H' G' : Hp} {σ : L2.St} {δ : DEnv} (k : Ok K cl hx (refS vs ks 0) H G H' G' σ δ) : Frm (refA vs ks) H G H' G' where
  gk := k.ext
  sub := k.sub
  kept := fun b o e hb => k.kept b o e fun p hp z => hb (by rw [← refS_addr (i := 0), ← z]; exact List.mem_map_of_mem hp)
  new := k.new
end
/-- the reading of a def's body -/
theorem def_read {P : Program} {w : World} {K : PySem.W.Frag} {mg : Str → Option Value} {base : Heap} {cl : Cw} {qual : Str} {st : Stmt} {f : Addr} {N ps : List Str} {k : Nat} {ks : List Bool} {F : DS} (S : FnScope N ps (defScope st)) (hk : ks.length = ps.length)
    (hbody : ∀ (cdv : Value) (A : Around) (outer : List Env) (s : Shared) (H : Hp) (E : XK), Room k (A.deeper (envOfC qual (defScope st) s.heap.objs.size f cdv)) →
      Takes (cxOf (L2.CX P w) P w K mg base N qual (defScope st) f cdv A outer s H E) (fun c d _ H => E c d H) →
      PassesOwn (model P w) (A.deeper (envOfC qual (defScope st) s.heap.objs.size f cdv)) (envOfC qual (defScope st) s.heap.objs.size f cdv) (cxOf (L2.CX P w) P w K mg base N qual (defScope st) f cdv A outer s H E).xe →
      JSs ⟨fun c d _ H => E c d H, cl, (0, none)⟩ (cxOf (L2.CX P w) P w K mg base N qual (defScope st) f cdv A outer s H E) (defBody st) F) :
    ∀ (cdv : Value) (A : Around) (outer : List Env) (s : Shared) (H : Hp) (vs : List V) (Q : VK) (E : XK), Room k (A.deeper (envOfC qual (defScope st) s.heap.objs.size f cdv)) → SpF K cl ks (defF ks N.length F) vs H Q E →
      ∃ t, PSs (cxOf (L2.CX P w) P w K mg base N qual (defScope st) f cdv A outer s H E) (defBody st) t ∧ t { nx := fun _ H' => Q .non H', rt := Q } (start N vs) H := by
  have hpl : ps.length ≤ N.length := by have := congrArg List.length S.pre; rw [List.length_take] at this; omega
  intro cdv A outer s H vs Q E hr h
  · obtain ⟨G, ds, sg, a, nd, h⟩ := h
    refine ⟨_, pssS _ _, ?_⟩
    have e0 : start N vs = vs.map some ++ List.replicate (N.length - vs.length) (none : Option V) := rfl
    have ok0 := entry_ok (hx := (0, none)) sg a nd (n := N.length) (by rw [hk]; exact hpl)
    rw [← e0] at ok0
    refine hbody cdv A outer s H E hr (takes_of rfl rfl rfl rfl) (passes_of rfl) (refS vs ks 0) H G H G _ _ _ ok0 ?_
    have hd : ds.length = ks.length := a.length.2
    unfold defF at h
    rw [if_pos hd] at h
    have fin : ∀ {H' G' : Hp} {σ : L2.St} {δ : DEnv} {rs : List D}, Ok K cl (0, none) (refS vs ks 0) H G H' G' σ δ → endR ks δ = some rs → RefOk K cl H' G' (refA vs ks) rs := fun {H' G' σ δ rs} k' e =>
      end_ok k' vs ks 0 rs a.length.1 (fun p hp => hp) a.refs (by rw [List.drop_zero]; exact e)
    cases q : F (mkEnv ks ds N.length) with
    | nx δ =>
      rw [q] at h
      simp only [toFO] at h
      cases q2 : endR ks δ with
      | none => rw [q2] at h; exact h.elim
      | some rs =>
        rw [q2] at h
        exact fun σ' H' G' s' k' => h .non H' G' k'.frm (fin k' q2) .non
    | rt d δ =>
      rw [q] at h
      simp only [toFO] at h
      cases q2 : endR ks δ with
      | none => rw [q2] at h; exact h.elim
      | some rs =>
        rw [q2] at h
        exact fun v σ' H' G' s' k' r => h v H' G' k'.frm (fin k' q2) r
    | ro d δ =>
      rw [q] at h
      simp only [toFO] at h
      cases q2 : endR ks δ with
      | none => rw [q2] at h; exact h.elim
      | some rs =>
        rw [q2] at h
        exact fun a σ' H' G' s' k' h0 ga ow => h a H' G' k'.frm (fin k' q2) h0 ga ow
    | ex cn ns es δ =>
      rw [q] at h
      simp only [toFO] at h
      cases q2 : endR ks δ with
      | none => rw [q2] at h; exact h.elim
      | some rs =>
        rw [q2] at h
        exact fun cls dd σ' H' G' s' k' xo => h cls dd H' G' k'.frm (fin k' q2) xo
    | bk δ => rw [q] at h; exact h.elim
    | ct δ => rw [q] at h; exact h.elim
    | st => rw [q] at h; exact h.elim
theorem spF_len {K : PySem.W.Frag} {cl : Cw} {ks : List Bool} {fn : List D → FO} {n : Nat} (hk : ks.length = n) : ∀ vs H Q E, SpF K cl ks fn vs H Q E → vs.length = n := fun vs H Q E h => by
  obtain ⟨G, ds, _, a, _⟩ := h
  rw [a.length.1, hk]
/-- THE RULE for a def -/
theorem def_ok {P : Program} {w : World} {K : PySem.W.Frag} {mg : Str → Option Value} {base : Heap} {cl : Cw} {x qual : Str} {st : Stmt} {f : Addr} {fd : FuncData} {N ps : List Str} {k : Nat} {ks : List Bool} {F : DS} (FF : L2.Fun K x qual st f fd) (S : FnScope N ps (defScope st)) (hk : ks.length = ps.length)
    (hbody : ∀ (cdv : Value) (A : Around) (outer : List Env) (s : Shared) (H : Hp) (E : XK), Room k (A.deeper (envOfC qual (defScope st) s.heap.objs.size f cdv)) →
      Takes (cxOf (L2.CX P w) P w K mg base N qual (defScope st) f cdv A outer s H E) (fun c d _ H => E c d H) →
      PassesOwn (model P w) (A.deeper (envOfC qual (defScope st) s.heap.objs.size f cdv)) (envOfC qual (defScope st) s.heap.objs.size f cdv) (cxOf (L2.CX P w) P w K mg base N qual (defScope st) f cdv A outer s H E).xe →
      JSs ⟨fun c d _ H => E c d H, cl, (0, none)⟩ (cxOf (L2.CX P w) P w K mg base N qual (defScope st) f cdv A outer s H E) (defBody st) F) :
    FnOk P w K mg base (L2.CX P w) (k + 1) f fd ps (SpF K cl ks (defF ks N.length F)) := FF.okX S (spF_len hk) (def_read S hk hbody)
end DL

set_option maxRecDepth 100000
set_option maxHeartbeats 4000000
namespace DL
open PySem PySem.Spec PyProof.Rows L2

/-! ### what is walked -/
/-- J goes through ds, wherever G is frozen -/
def WalkOk (K : PySem.W.Frag) (cl : Cw) (G : Hp) (J : It) (ds : List D) : Prop := ∀ (H2 G2 : Hp), Sub G G2 → Sub G2 H2 → ∀ (i : Nat),
  (∀ d, ds[i]? = some d → J.go i H2 ∧ ∀ x H', J.yld i H2 x H' → ∃ G', Grow H2 G2 H' G' ∧ Rep K cl G' x d) ∧ (i = ds.length → J.stop i H2)
theorem WalkOk.mono {K : PySem.W.Frag} {cl : Cw} {G G' : Hp} {J : It} {ds : List D} (w : WalkOk K cl G J ds) (s : Sub G G') : WalkOk K cl G' J ds := fun H2 G2 s2 => w H2 G2 (s.trans s2)
def tI (X : Cx) (tg iter : Expr) : TI := fun σ H R => ∀ pins s, Inv X pins σ H s → wpAny (model X.prog X.w) X.A (eval iter X.env) (fun v s1 => wpAny (model X.prog X.w) X.A (pyIter v) (PIE X pins σ tg R) X.xe s1) X.xe s
theorem piS (X : Cx) (tg iter : Expr) : PI X tg iter (tI X tg iter) := ⟨fun pins s _ _ _ I h => h pins s I⟩
abbrev DI := DEnv → EO (List D)
def JI (c : Cf) (X : Cx) (tg iter : Expr) (F : DI) : Prop := ∀ (R : List (Nat × Addr)) (H0 G0 H G : Hp) (σ : L2.St) (δ : DEnv) (Q : It → Hp → Prop), (c.fx X R H0 G0).Ok H G σ δ → EPost (c.fx X R H0 G0) c.W σ (fun G' J ds => WalkOk X.K c.cl G' J ds) G (F δ) Q → tI X tg iter σ H Q
def dItems : D → Option (List D)
  | .lst ds => some ds
  | .tup ds => some ds
  | .scr ns => some (ns.map D.int)
  | .str x => some (x.cps.toList.map fun c => D.str ⟨#[c]⟩)
  | _ => none
def dIt (fe : DE) : DI := fun δ => (fe δ).bind fun d δ1 => match dItems d with
  | some ds => .ok ds δ1
  | none => .st
section
variable {K : PySem.W.Frag} {cl : Cw} {G : Hp}
theorem walk_lst {a : Addr} {xs : List V} {ds : List D} (h : SqL K G a xs) (r : RepL K cl G xs ds) : WalkOk K cl G (Itl K a) ds := fun H2 G2 s s2 i => by
  have hq : SqL K H2 a xs := (s.trans s2).sqL h
  refine ⟨fun d e => ?_, fun e => ⟨xs, hq, by rw [r.length, e]; exact Nat.le_refl _⟩⟩
  obtain ⟨v, hv, rv⟩ := r.get e
  refine ⟨⟨xs, v, hq, hv⟩, fun x H' y => ?_⟩
  obtain ⟨e1, y⟩ := y
  have z := y xs hq
  rw [hv] at z
  cases z
  rw [e1]
  exact ⟨G2, Grow.refl s2, rv.mono s⟩
theorem walk_tp {a : Addr} {xs : List V} {ds : List D} (h : SqT K G a xs) (r : RepL K cl G xs ds) : WalkOk K cl G (Itt K a) ds := fun H2 G2 s s2 i => by
  have hq : SqT K H2 a xs := (s.trans s2).sqT h
  refine ⟨fun d e => ?_, fun e => ⟨xs, hq, by rw [r.length, e]; exact Nat.le_refl _⟩⟩
  obtain ⟨v, hv, rv⟩ := r.get e
  refine ⟨⟨xs, v, hq, hv⟩, fun x H' y => ?_⟩
  obtain ⟨e1, y⟩ := y
  have z := y xs hq
  rw [hv] at z
  cases z
  rw [e1]
  exact ⟨G2, Grow.refl s2, rv.mono s⟩
theorem walk_st {x : Str} : WalkOk K cl G (Its x) (x.cps.toList.map fun c => D.str ⟨#[c]⟩) := fun H2 G2 s s2 i => by
  refine ⟨fun d e => ?_, fun e => by show x.cps.size ≤ i; rw [e]; simp⟩
  rw [List.getElem?_map, Array.getElem?_toList] at e
  cases q : x.cps[i]? with
  | none => rw [q] at e; cases e
  | some c =>
    rw [q] at e
    cases e
    refine ⟨(Array.getElem?_eq_some_iff.mp q).1, fun y H' hy => ?_⟩
    obtain ⟨e1, c', q', e2⟩ := hy
    rw [q] at q'
    cases q'
    rw [e1, e2]
    exact ⟨G2, Grow.refl s2, .str _⟩
theorem walk_rng {lo : Int} {n : Nat} : WalkOk K cl G (Itr lo n) ((List.range n).map fun i => D.int (lo + (i : Nat))) := fun H2 G2 s s2 i => by
  refine ⟨fun d e => ?_, fun e => by show n ≤ i; rw [e]; simp⟩
  rw [List.getElem?_map] at e
  by_cases hi : i < n
  · rw [List.getElem?_range hi] at e
    cases e
    refine ⟨hi, fun y H' hy => ?_⟩
    obtain ⟨e1, e2⟩ := hy
    rw [e1, e2]
    exact ⟨G2, Grow.refl s2, .int _⟩
  · rw [List.getElem?_eq_none (by simpa using hi)] at e
    cases e
end
/-- a list, a tuple or a text -/
def iSeq (K : PySem.W.Frag) (tl : TE) : TI := fun σ H R => tl σ H fun x H1 => (∃ a, x = .ref a ∧ ((∃ xs, SqL K H1 a xs) ∧ R (Itl K a) H1 ∨ (∃ xs, SqT K H1 a xs) ∧ R (Itt K a) H1)) ∨ ∃ z, x = .str z ∧ R (Its z) H1
section
variable {c : Cf} {X : Cx} {tg e : Expr} {fe : DE} {tl : TE} {pos : Pos}
theorem pi_seq (hl : PE X e tl) : PI X tg e (iSeq X.K tl) := by
  refine ⟨fun pins s σ H R I h => ?_⟩
  refine thn (hl.run pins s σ H _ I h) fun v s1 ⟨x, H1, I1, r1, q1⟩ => ?_
  rcases q1 with ⟨a, rfl, q1⟩ | ⟨z, rfl, q1⟩
  · have r1 : v = Value.ref a := r1
    subst r1
    rcases q1 with ⟨hx, q⟩ | ⟨hx, q⟩
    · obtain ⟨xs, hq⟩ := hx
      obtain ⟨its, rv, p, hz⟩ := I1.list hq
      refine wpAny_pyIter_list p.isList ?_
      refine ⟨s1.heap.objs.size, [s1.heap.objs.size], _, _, H1, rfl, I1.kept (t' := s1.toks) fun b o e => Heap.get?_push_of_some _ e, turn_list a _, ⟨_, Heap.get?_push_size _ rfl, rfl, rfl⟩, fun b hb => ?_, q⟩
      have e : b = s1.heap.objs.size := by simpa using hb
      subst e
      exact I1.fpOk (Nat.le_refl _) (I1.hok.fresh (Nat.le_refl _))
    · obtain ⟨xs, hq⟩ := hx
      obtain ⟨its, rv, p, hz⟩ := I1.tuple hq
      refine wpAny_pyIter_tuple (show s1.heap.IsTuple a its.toArray from p) ?_
      refine ⟨s1.heap.objs.size, [s1.heap.objs.size], _, _, H1, rfl, I1.kept (t' := s1.toks) fun b o e => Heap.get?_push_of_some _ e, turn_tuple a _, ⟨_, Heap.get?_push_size _ rfl, rfl, rfl⟩, fun b hb => ?_, q⟩
      have e : b = s1.heap.objs.size := by simpa using hb
      subst e
      exact I1.fpOk (Nat.le_refl _) (I1.hok.fresh (Nat.le_refl _))
  · obtain ⟨t, rfl⟩ : ∃ t, v = Value.str z t := r1
    cases ha : z.cps.all (· < 128)
    · exact wpAny_pyIter_wide ha (pi_one (tk := s1.toks) I1 _ (turn_str _ z t "str_iterator" (.inr rfl)) ⟨_, Heap.get?_push_size _ rfl, rfl, rfl⟩ q1)
    · exact wpAny_pyIter_ascii ha (pi_one (tk := s1.toks) I1 _ (turn_str _ z t "str_ascii_iterator" (.inl rfl)) ⟨_, Heap.get?_push_size _ rfl, rfl, rfl⟩ q1)
theorem ji_of {t : TI} {F : DI} (p : PI X tg e t) (h : ∀ (R : List (Nat × Addr)) (H0 G0 H G : Hp) (σ : L2.St) (δ : DEnv) (Q : It → Hp → Prop), (c.fx X R H0 G0).Ok H G σ δ → EPost (c.fx X R H0 G0) c.W σ (fun G' J ds => WalkOk X.K c.cl G' J ds) G (F δ) Q → t σ H Q) : JI c X tg e F :=
  fun R H0 G0 H G σ δ Q k h' pins s I => p.run pins s σ H Q I (h R H0 G0 H G σ δ Q k h')
theorem ji_seq (he : JE c X e fe) : JI c X tg e (dIt fe) := by
  refine ji_of (pi_seq (peS X e)) fun R H0 G0 H G σ δ Q k h => ?_
  refine he R H0 G0 H G σ δ _ k (EPost.imp (EPost.bind h) fun x H1 ⟨G1, d, δ1, s1, k1, r1, h1⟩ => ?_)
  cases r1 with
  | @lst a xs ds h2 r =>
    refine .inl ⟨a, rfl, .inl ⟨⟨xs, .inl (.inl (k1.sub _ _ h2))⟩, ?_⟩⟩
    exact h1 _ H1 G1 (.refl G1) k1 (walk_lst (.inl (.inl h2)) r)
  | @tup a xs ds h2 r =>
    refine .inl ⟨a, rfl, .inr ⟨⟨xs, .inl (.inl (k1.sub _ _ h2))⟩, ?_⟩⟩
    exact h1 _ H1 G1 (.refl G1) k1 (walk_tp (.inl (.inl h2)) r)
  | @scr a ns h2 =>
    refine .inl ⟨a, rfl, .inl ⟨⟨_, k1.sub.sqL h2⟩, ?_⟩⟩
    exact h1 _ H1 G1 (.refl G1) k1 (walk_lst h2 (RepL.of_ints ns))
  | str x => exact .inr ⟨x, rfl, h1 _ H1 G1 (.refl G1) k1 walk_st⟩
  | non => exact h1.elim
  | bl b => exact h1.elim
  | int i => exact h1.elim
  | dct _ _ _ => exact h1.elim
  | ins _ _ _ _ => exact h1.elim
  | set _ _ => exact h1.elim
def rngD (lo hi : Int) : List D := (List.range (hi - lo).toNat).map fun i => D.int (lo + (i : Nat))
def dRg1 (fa : DE) : DI := fun δ => (fa δ).bind fun x δ1 => match x with
  | .int j => if -(2 ^ 62) ≤ j ∧ j < 2 ^ 62 then .ok (rngD 0 j) δ1 else .st
  | _ => .st
def dRg2 (fa fb : DE) : DI := fun δ => (fa δ).bind fun x δ1 => (fb δ1).bind fun y δ2 => match x, y with
  | .int i, .int j => if -(2 ^ 62) ≤ i ∧ i < 2 ^ 62 ∧ -(2 ^ 62) ≤ j ∧ j < 2 ^ 62 then .ok (rngD i j) δ2 else .st
  | _, _ => .st
theorem ji_range1 {a : Expr} {p : Pos} {fa : DE} (hg : Gl X "range") (hm : X.mg "range" = none) (ha : JE c X a fa) (hs : starEach [a] X.env = [(false, eval a X.env)] := by rfl) : JI c X tg (.Call (.Name "range" p) [a] [] pos) (dRg1 fa) := by
  refine ji_of (pi_range1 hg hm (pa_cons (peS X a) pa_nil hs) hs) fun R H0 G0 H G σ δ Q k h => ?_
  refine ha R H0 G0 H G σ δ _ k (EPost.imp (EPost.bind h) fun x H1 ⟨G1, d, δ1, s1, k1, r1, h1⟩ => ?_)
  cases r1 with
  | int j =>
    by_cases hj : -(2 ^ 62) ≤ j ∧ j < 2 ^ 62
    · simp only [if_pos hj] at h1
      have w := walk_rng (K := X.K) (cl := c.cl) (G := G1) (lo := 0) (n := j.toNat)
      exact ⟨j, rfl, hj.1, hj.2, h1 (Itr 0 j.toNat) H1 G1 (.refl G1) k1 (by unfold rngD; rw [Int.sub_zero]; exact w)⟩
    · simp only [if_neg hj] at h1; exact h1.elim
  | _ => exact h1.elim
theorem ji_range2 {a b : Expr} {p : Pos} {fa fb : DE} (hg : Gl X "range") (hm : X.mg "range" = none) (ha : JE c X a fa) (hb : JE c X b fb)
    (hs : starEach [a, b] X.env = [(false, eval a X.env), (false, eval b X.env)] := by rfl) (hs2 : starEach [b] X.env = [(false, eval b X.env)] := by rfl) : JI c X tg (.Call (.Name "range" p) [a, b] [] pos) (dRg2 fa fb) := by
  refine ji_of (pi_range2 hg hm (pa_cons (peS X a) (pa_cons (peS X b) pa_nil hs2) (by rw [hs, hs2])) hs hs2) fun R H0 G0 H G σ δ Q k h => ?_
  refine ha R H0 G0 H G σ δ _ k (EPost.imp (EPost.bind h) fun x H1 ⟨G1, d, δ1, s1, k1, r1, h1⟩ => ?_)
  refine hb R H0 G0 H1 G1 σ δ1 _ k1 (EPost.imp (EPost.bind h1) fun y H2 ⟨G2, d2, δ2, s2, k2, r2, h2⟩ => ?_)
  cases r1 with
  | int i =>
    cases r2 with
    | int j =>
      by_cases hj : -(2 ^ 62) ≤ i ∧ i < 2 ^ 62 ∧ -(2 ^ 62) ≤ j ∧ j < 2 ^ 62
      · simp only [if_pos hj] at h2
        exact ⟨i, j, rfl, hj, h2 (Itr i (j - i).toNat) H2 G2 (.refl G2) k2 walk_rng⟩
      · simp only [if_neg hj] at h2; exact h2.elim
    | _ => exact h2.elim
  | _ => exact h2.elim
end

/-! ### targets -/
def tG (X : Cx) (tg : Expr) : TG := fun v σ H Q => ∀ pins s u, Inv X pins σ H s → RelV v u → wpAny (model X.prog X.w) X.A (assign tg X.env u) (fun _ s' => ∃ σ' H', Inv X pins σ' H' s' ∧ Q σ' H') X.xe s
theorem pgS (X : Cx) (tg : Expr) : PG X tg (tG X tg) := ⟨fun pins s _ _ _ u _ I r h => h pins s u I r⟩
def JG (c : Cf) (X : Cx) (tg : Expr) (ts : List Nat) (A : D → DEnv → Option DEnv) : Prop := ∀ (R : List (Nat × Addr)) (H0 G0 H G : Hp) (σ : L2.St) (δ δ' : DEnv) (v : V) (d : D) (Q : L2.St → Hp → Prop), (c.fx X R H0 G0).Ok H G σ δ → Rep X.K c.cl G v d → A d δ = some δ' →
  (∀ σ', (c.fx X R H0 G0).Ok H G σ' δ' → (∀ vs, (∀ i ∈ ts, i ∈ vs) → wipe σ' vs = wipe σ vs) → Q σ' H) → tG X tg v σ H Q
section
variable {c : Cf} {X : Cx} {tg e : Expr} {fe : DE} {tl : TE} {pos : Pos}
theorem wipe_set {σ : L2.St} {i : Nat} {x : Option V} : ∀ {vs : List Nat}, i ∈ vs → wipe (σ.set i x) vs = wipe σ vs
  | [], h => by cases h
  | v :: vs, h => by
    show (wipe (σ.set i x) vs).set v none = (wipe σ vs).set v none
    by_cases hi : i ∈ vs
    · rw [wipe_set hi]
    · have e : i = v := by
        rcases List.mem_cons.mp h with e | e
        · exact e
        · exact absurd e hi
      subst e
      have go : ∀ vs : List Nat, i ∉ vs → wipe (σ.set i x) vs = (wipe σ vs).set i x := by
        intro vs
        induction vs with
        | nil => intro _; rfl
        | cons w vs ih =>
          intro h
          have h1 : i ≠ w := fun z => h (z ▸ List.mem_cons_self)
          show (wipe (σ.set i x) vs).set w none = ((wipe σ vs).set w none).set i x
          rw [ih fun z => h (List.mem_cons_of_mem _ z), List.set_comm _ _ h1]
      rw [go vs hi, List.set_set]
theorem jg_name {i : Nat} (p : PG X tg (gName i)) : JG c X tg [i] (setV i) := fun R H0 G0 H G σ δ δ' v d Q k r e h pins s u I ru => p.run pins s σ H v u Q I ru (h _ (k.setV e r) fun vs hv => wipe_set (hv i List.mem_cons_self))
/-- names one after another -/
def setVs : List Nat → List D → DEnv → Option DEnv
  | [], [], δ => some δ
  | i :: is, d :: ds, δ => (setV i d δ).bind (setVs is ds)
  | _, _, _ => none
def gNames : List Nat → TGs
  | [] => gNil
  | i :: is => gCons (gName i) (gNames is)
theorem names_ok {R : List (Nat × Addr)} {H0 G0 H G : Hp} {Q : L2.St → Hp → Prop} : ∀ {is : List Nat} {vs : List V} {ds : List D} {σ : L2.St} {δ δ' : DEnv}, (c.fx X R H0 G0).Ok H G σ δ → RepL X.K c.cl G vs ds → setVs is ds δ = some δ' → (∀ σ', (c.fx X R H0 G0).Ok H G σ' δ' → (∀ vs, (∀ i ∈ is, i ∈ vs) → wipe σ' vs = wipe σ vs) → Q σ' H) → gNames is vs σ H Q
  | [], _, [], _, _, _, k, r, e, h => by cases r; cases e; exact ⟨rfl, h _ k fun _ _ => rfl⟩
  | [], _, _ :: _, _, _, _, k, r, e, h => by cases e
  | _ :: _, _, [], _, _, _, k, r, e, h => by cases e
  | i :: is, _, d :: ds, σ, δ, δ', k, r, e, h => by
    cases r with
    | @cons v vs _ _ r1 r2 =>
      simp only [setVs, Option.bind_eq_some_iff] at e
      obtain ⟨δ1, e1, e2⟩ := e
      exact ⟨v, vs, rfl, names_ok (k.setV e1 r1) r2 e2 fun σ' k' hw => h σ' k' fun ws hi => (hw ws fun j hj => hi j (List.mem_cons_of_mem _ hj)).trans (wipe_set (hi i List.mem_cons_self))⟩
def dUnp (is : List Nat) : D → DEnv → Option DEnv
  | .tup ds, δ => setVs is ds δ
  | .lst ds, δ => setVs is ds δ
  | _, _ => none
theorem setVs_len : ∀ {is : List Nat} {ds : List D} {δ δ' : DEnv}, setVs is ds δ = some δ' → ds.length = is.length
  | [], [], _, _, _ => rfl
  | [], _ :: _, _, _, e => by cases e
  | _ :: _, [], _, _, e => by cases e
  | i :: is, d :: ds, δ, δ', e => by
    simp only [setVs, Option.bind_eq_some_iff] at e
    obtain ⟨δ1, e1, e2⟩ := e
    exact congrArg (· + 1) (setVs_len e2)
theorem jg_names {is : List Nat} (p1 : PG X tg (gTup X.K is.length (gNames is))) (p2 : PG X tg (gLst X.K is.length (gNames is))) : JG c X tg is (dUnp is) := fun R H0 G0 H G σ δ δ' v d Q k r e h pins s u I ru => by
  cases r with
  | @tup a xs ds h1 h2 => exact p1.run pins s σ H _ u Q I ru ⟨a, xs, rfl, .inl (.inl (k.sub _ _ h1)), by rw [h2.length]; exact setVs_len e, names_ok k h2 e h⟩
  | @lst a xs ds h1 h2 => exact p2.run pins s σ H _ u Q I ru ⟨a, xs, rfl, .inl (.inl (k.sub _ _ h1)), by rw [h2.length]; exact setVs_len e, names_ok k h2 e h⟩
  | _ => cases e

/-! ### for -/
def forL (A : D → DEnv → Option DEnv) (f : DS) : List D → DEnv → SO
  | [], δ => .nx δ
  | d :: ds, δ => match A d δ with
    | none => .st
    | some δ1 => match f δ1 with
      | .nx δ2 => forL A f ds δ2
      | .ct δ2 => forL A f ds δ2
      | .bk δ2 => .nx δ2
      | .rt x δ2 => .rt x δ2
      | .ro x δ2 => .ro x δ2
      | .ex c ns es δ2 => .ex c ns es δ2
      | .st => .st
def sFor (it : DI) (A : D → DEnv → Option DEnv) (f : DS) : DS := fun δ => (it δ).to fun ds δ1 => forL A f ds δ1
theorem js_for {ts : List Nat} {iter : Expr} {body : List Stmt} {it : DI} {A : D → DEnv → Option DEnv} {f : DS} (hp : PassesOwn (model X.prog X.w) X.A X.env X.xe) (hc : X.calm = true) (hi : JI c X tg iter it) (hg : JG c X tg ts A) (hb : JSs c X body f)
    (hs : ∀ x, foldedSetIterable iter X.env x = pure x := by intro _; rfl) : JS c X (.For tg iter body [] pos) (sFor it A f) := by
  refine js_of (ps_for hp hc (piS X tg iter) (pgS X tg) (pssS X body) hs) fun R H0 G0 H G σ δ D' k h => ?_
  refine hi R H0 G0 H G σ δ _ k (EPost.imp (SPost.ofE h) fun J H1 ⟨G1, ds, δ1, s1, k1, w, h1⟩ => ?_)
  refine ⟨fun i m σ' H' => m = ds.length - i ∧ i ≤ ds.length ∧ ∃ G' δ', Sub G1 G' ∧ (c.fx X R H0 G0).Ok H' G' σ' δ' ∧ SPost (c.fx X R H0 G0) c.W G' (forL A f (ds.drop i) δ') D', ⟨ds.length, by simp, Nat.zero_le _, G1, δ1, .refl G1, k1, by rw [List.drop_zero]; exact h1⟩, ?_⟩
  rintro i m σ2 H2 ⟨rfl, hi2, G2, δ2, s2, k2, h2⟩
  obtain ⟨w1, w2⟩ := w H2 G2 s2 k2.sub i
  by_cases hlt : i < ds.length
  · refine .inr ⟨(w1 ds[i] (List.getElem?_eq_getElem hlt)).1, fun σ' H' => i + 1 ≤ ds.length ∧ ∃ G' δ', Sub G1 G' ∧ (c.fx X R H0 G0).Ok H' G' σ' δ' ∧ SPost (c.fx X R H0 G0) c.W G' (forL A f (ds.drop (i + 1)) δ') D', fun σ' H' hN => ⟨ds.length - (i + 1), by omega, rfl, hN.1, hN.2⟩, fun x H3 y => ?_⟩
    obtain ⟨G3, gr, rx⟩ := (w1 ds[i] (List.getElem?_eq_getElem hlt)).2 x H3 y
    have k3 := k2.grow gr
    rw [List.drop_eq_getElem_cons hlt] at h2
    unfold forL at h2
    cases q : A ds[i] δ2 with
    | none => rw [q] at h2; exact h2.elim
    | some δ3 =>
      rw [q] at h2
      refine hg R H0 G0 H3 G3 σ2 δ2 δ3 x ds[i] _ k3 rx q fun σ3 k4 _ => ?_
      refine hb R H0 G0 H3 G3 σ3 δ3 _ k4 ?_
      have s3 := s2.trans gr.gk
      cases q2 : f δ3 with
      | nx δ4 => simp only [q2] at h2; exact fun σ' H' G' s' k' => ⟨hlt, G', δ4, s3.trans s', k', SPost.weak (gr.gk.trans s') h2⟩
      | ct δ4 => simp only [q2] at h2; exact fun σ' H' G' s' k' => ⟨hlt, G', δ4, s3.trans s', k', SPost.weak (gr.gk.trans s') h2⟩
      | bk δ4 => simp only [q2] at h2; exact fun σ' H' G' s' k' => h2 σ' H' G' (gr.gk.trans s') k'
      | rt x' δ4 => simp only [q2] at h2; exact fun v σ' H' G' s' k' r => h2 v σ' H' G' (gr.gk.trans s') k' r
      | ro x' δ4 => simp only [q2] at h2; exact fun v σ' H' G' s' k' r => h2 v σ' H' G' (gr.gk.trans s') k' r
      | ex cn ns es δ4 => simp only [q2] at h2; exact fun cls dd σ' H' G' s' k' xo => h2 cls dd σ' H' G' (gr.gk.trans s') k' xo
      | st => simp only [q2] at h2; exact h2.elim
  · have e : i = ds.length := by omega
    rw [e, List.drop_eq_nil_of_le (Nat.le_refl _)] at h2
    exact .inl ⟨w2 e, h2 σ2 H2 G2 (.refl G2) k2⟩

/-! ### while -/
def whL (t : DT) (f : DS) : Nat → DEnv → SO
  | 0, _ => .st
  | n + 1, δ => (t δ).to fun b δ1 => if b = true then (match f δ1 with
      | .nx δ2 => whL t f n δ2
      | .ct δ2 => whL t f n δ2
      | .bk δ2 => .nx δ2
      | .rt x δ2 => .rt x δ2
      | .ro x δ2 => .ro x δ2
      | .ex c ns es δ2 => .ex c ns es δ2
      | .st => .st) else .nx δ1
theorem js_while {tc : Expr} {body : List Stmt} {t : DT} {f : DS} (n : Nat) (hp : PassesOwn (model X.prog X.w) X.A X.env X.xe) (ht : JT c X tc t) (hb : JSs c X body f) : JS c X (.While tc body [] pos) (whL t f n) := by
  refine js_of (ps_while hp (ptS X tc) (pssS X body)) fun R H0 G0 H G σ δ D' k h => ?_
  refine ⟨fun m σ' H' => ∃ G' δ', (c.fx X R H0 G0).Ok H' G' σ' δ' ∧ SPost (c.fx X R H0 G0) c.W G' (whL t f m δ') D', ⟨n, G, δ, k, h⟩, ?_⟩
  rintro m σ2 H2 ⟨G2, δ2, k2, h2⟩
  cases m with
  | zero => exact h2.elim
  | succ m =>
    refine ht R H0 G0 H2 G2 σ2 δ2 _ k2 (EPost.imp (SPost.ofE (rel := relB) h2) fun b H3 ⟨G3, b', δ3, s3, k3, r3, h3⟩ => ?_)
    have r3 : b = b' := r3
    subst r3
    cases b with
    | false =>
      rw [if_neg Bool.false_ne_true]
      exact h3 σ2 H3 G3 (.refl G3) k3
    | true =>
      rw [if_pos rfl]
      simp only [if_true] at h3
      refine ⟨fun σ' H' => ∃ G' δ', (c.fx X R H0 G0).Ok H' G' σ' δ' ∧ SPost (c.fx X R H0 G0) c.W G' (whL t f m δ') D', fun σ' H' hN => ⟨m, Nat.lt_succ_self m, hN⟩, ?_⟩
      refine hb R H0 G0 H3 G3 σ2 δ3 _ k3 ?_
      cases q2 : f δ3 with
      | nx δ4 => simp only [q2] at h3; exact fun σ' H' G' s' k' => ⟨G', δ4, k', SPost.weak s' h3⟩
      | ct δ4 => simp only [q2] at h3; exact fun σ' H' G' s' k' => ⟨G', δ4, k', SPost.weak s' h3⟩
      | bk δ4 => simp only [q2] at h3; exact fun σ' H' G' s' k' => h3 σ' H' G' s' k'
      | rt x' δ4 => simp only [q2] at h3; exact fun v σ' H' G' s' k' r => h3 v σ' H' G' s' k' r
      | ro x' δ4 => simp only [q2] at h3; exact fun v σ' H' G' s' k' r => h3 v σ' H' G' s' k' r
      | ex cn ns es δ4 => simp only [q2] at h3; exact fun cls dd σ' H' G' s' k' xo => h3 cls dd σ' H' G' s' k' xo
      | st => simp only [q2] at h3; exact h3.elim
end
end DL

set_option maxRecDepth 100000
set_option maxHeartbeats 4000000
namespace DL
open PySem PySem.Spec PyProof.Rows L2

/-! ### an owned variable is frozen ahead -/
def dFz {α : Type} (i : Nat) (F : DEnv → α) : DEnv → α := fun δ => match δ[i]? with
  | some (.own d) => F (δ.set i (.val d))
  | _ => F δ
section
variable {c : Cf} {X : Cx} {tg e : Expr} {fe : DE} {pos : Pos}
theorem je_fz {i : Nat} (h : JE c X e fe) : JE c X e (dFz i fe) := fun R H0 G0 H G σ δ Q k hp => by
  unfold dFz at hp
  split at hp
  · rename_i d q
    obtain ⟨a, G', _, s, _, k'⟩ := k.freeze q
    exact h R H0 G0 H G' σ _ Q k' (EPost.weak s hp)
  · exact h R H0 G0 H G σ δ Q k hp
theorem FPost.weak {f : Fx} {W : WX} {σ : L2.St} {G G' : Hp} {o : EO D} {Q : VK} (s : Sub G G') (h : FPost f W σ G o Q) : FPost f W σ G' o Q := by
  cases o with
  | ok d δ => exact fun a H' G'' s' => h a H' G'' (s.trans s')
  | ex c ns ds δ => exact fun cls dd H' G'' s' => h cls dd H' G'' (s.trans s')
  | st => exact h
theorem jf_fz {i : Nat} (h : JF c X e fe) : JF c X e (dFz i fe) := fun R H0 G0 H G σ δ Q k hp => by
  unfold dFz at hp
  split at hp
  · rename_i d q
    obtain ⟨a, G', _, s, _, k'⟩ := k.freeze q
    exact h R H0 G0 H G' σ _ Q k' (FPost.weak s hp)
  · exact h R H0 G0 H G σ δ Q k hp
end

/-! ### the block of a comprehension -/
/-- the slots within: its own names unset, owned ones by reference -/
def blkEnv (vs : List Nat) (δ : DEnv) : DEnv := (List.range δ.length).map fun i => if i ∈ vs then .un else match δ[i]? with
  | some (.own d) => .rf d
  | some s => s
  | none => .un
/-- back: the contents of owned slots -/
def backEnv (δ δ' : DEnv) : DEnv := (List.range δ.length).map fun i => match δ[i]? with
  | some s => if isO s then (match δ'[i]? with | some t => (match t.cont with | some d => s.put d | none => s) | none => s) else s
  | none => .un
/-- none of the block's own names is owned outside -/
def vsFree (vs : List Nat) (δ : DEnv) : Bool := vs.all fun i => match δ[i]? with
  | some s => !isO s
  | none => true
def refsOf (σ : L2.St) (δ : DEnv) : List (Nat × Addr) := (List.range δ.length).filterMap fun i => match δ[i]?, σ[i]? with
  | some s, some (some (V.ref a)) => if isO s then some (i, a) else none
  | _, _ => none
section
variable {K : PySem.W.Frag} {cl : Cw} {hx : Addr × Option Addr} {R : List (Nat × Addr)} {H0 G0 H G H' G' : Hp} {σ : L2.St} {δ : DEnv} {vs : List Nat}
theorem blkEnv_at {i : Nat} (hi : i < δ.length) : (blkEnv vs δ)[i]? = some (if i ∈ vs then .un else match δ[i] with | .own d => .rf d | s => s) := by
  unfold blkEnv
  rw [List.getElem?_map, List.getElem?_range hi]
  show some (if i ∈ vs then Sl.un else match δ[i]? with | some (.own d) => .rf d | some s => s | none => .un) = _
  rw [List.getElem?_eq_getElem hi]
  congr 1
  split
  · rfl
  · cases δ[i] <;> rfl
theorem backEnv_at {δ' : DEnv} {i : Nat} (hi : i < δ.length) : (backEnv δ δ')[i]? = some (if isO δ[i] then (match δ'[i]? with | some t => (match t.cont with | some d => δ[i].put d | none => δ[i]) | none => δ[i]) else δ[i]) := by
  unfold backEnv
  rw [List.getElem?_map, List.getElem?_range hi]
  show some (match δ[i]? with | some s => if isO s then (match δ'[i]? with | some t => (match t.cont with | some d => s.put d | none => s) | none => s) else s | none => .un) = _
  rw [List.getElem?_eq_getElem hi]
theorem mem_refsOf {p : Nat × Addr} : p ∈ refsOf σ δ ↔ ∃ s, δ[p.1]? = some s ∧ isO s = true ∧ σ[p.1]? = some (some (.ref p.2)) := by
  unfold refsOf
  rw [List.mem_filterMap]
  constructor
  · rintro ⟨i, hi, e⟩
    split at e
    · rename_i s a e1 e2
      split at e
      · rename_i ho
        cases e
        exact ⟨s, e1, ho, e2⟩
      · cases e
    · cases e
  · rintro ⟨s, e1, e2, e3⟩
    refine ⟨p.1, List.mem_range.mpr (List.getElem?_eq_some_iff.mp e1).1, ?_⟩
    rw [e1, e3]
    show (if isO s = true then some (p.1, p.2) else none) = some p
    rw [if_pos e2]
theorem wipe_in {σ : L2.St} {i : Nat} : ∀ {vs : List Nat}, i ∈ vs → i < σ.length → (wipe σ vs)[i]? = some none
  | [], h, _ => by cases h
  | v :: vs, h, hl => by
    show ((wipe σ vs).set v none)[i]? = some none
    by_cases e : v = i
    · subst e
      rw [List.getElem?_set_self (by rw [wipe_length]; exact hl)]
    · rw [List.getElem?_set_ne e]
      rcases List.mem_cons.mp h with z | z
      · exact absurd z.symm e
      · exact wipe_in z hl
theorem wipe_out {σ : L2.St} {i : Nat} : ∀ {vs : List Nat}, i ∉ vs → (wipe σ vs)[i]? = σ[i]?
  | [], _ => rfl
  | v :: vs, h => by
    show ((wipe σ vs).set v none)[i]? = σ[i]?
    rw [List.getElem?_set_ne (show v ≠ i from fun z => h (by rw [z]; exact List.mem_cons_self))]
    exact wipe_out fun z => h (List.mem_cons_of_mem _ z)
/-- the block begins -/
theorem Ok.block (k : Ok K cl hx R H0 G0 H G σ δ) (hv : vsFree vs δ = true) : Ok K cl hx (refsOf σ δ) H G H G (wipe σ vs) (blkEnv vs δ) := by
  have lb : (blkEnv vs δ).length = δ.length := by simp [blkEnv]
  have nv : ∀ {i : Nat} {s : Sl}, δ[i]? = some s → isO s = true → i ∉ vs := fun {i s} e o hi => by
    have := List.all_eq_true.mp hv i hi
    rw [e] at this
    simp [o] at this
  have at_ : ∀ {i : Nat} {s : Sl}, (blkEnv vs δ)[i]? = some s → ∃ s0, δ[i]? = some s0 ∧ ((i ∈ vs ∧ s = .un) ∨ (i ∉ vs ∧ s = (match s0 with | .own d => .rf d | s => s))) := fun {i s} e => by
    have hi : i < δ.length := by rw [← lb]; exact (List.getElem?_eq_some_iff.mp e).1
    rw [blkEnv_at hi] at e
    refine ⟨δ[i], List.getElem?_eq_getElem hi, ?_⟩
    by_cases h : i ∈ vs
    · rw [if_pos h] at e; cases e; exact .inl ⟨h, rfl⟩
    · rw [if_neg h] at e; cases e; exact .inr ⟨h, rfl⟩
  have oO : ∀ {i : Nat} {s : Sl}, (blkEnv vs δ)[i]? = some s → isO s = true → ∃ s0, δ[i]? = some s0 ∧ isO s0 = true ∧ i ∉ vs := fun {i s} e o => by
    obtain ⟨s0, e0, h | ⟨h, z⟩⟩ := at_ e
    · rw [h.2] at o; cases o
    · refine ⟨s0, e0, ?_, h⟩
      cases s0 with
      | own d => rfl
      | rf d => rfl
      | un => rw [z] at o; cases o
      | val d => rw [z] at o; cases o
      | exc c ns ds => rw [z] at o; cases o
  refine ⟨by rw [wipe_length, lb]; exact k.len, k.sub, .refl G, fun b o e => .inl e, fun b o e _ => e, fun p hp => ?_, fun i s x e1 e2 => ?_, fun i j s t a e1 e2 o1 o2 s1 s2 => ?_, fun p hp => ?_, fun i d e => ?_⟩
  · obtain ⟨s, e1, o, e2⟩ := mem_refsOf.mp hp
    obtain ⟨a, d, q1, q2, q3, _⟩ := (k.sl _ s _ e1 e2).ex o
    cases q1
    obtain ⟨u, hu⟩ := q3.ex
    exact ⟨by rw [hu]; simp, q2⟩
  · obtain ⟨s0, e0, h | ⟨h, z⟩⟩ := at_ e1
    · rw [h.2]; trivial
    · rw [wipe_out h] at e2
      have q := k.sl i s0 x e0 e2
      rw [z]
      cases s0 with
      | un => trivial
      | val d => exact q
      | own d => obtain ⟨a, q1, q2, _, q4⟩ := q; exact ⟨a, q1, q2, q4⟩
      | rf d => exact q
      | exc c ns ds => exact q
  · obtain ⟨s0, e3, o3, n3⟩ := oO e1 o1
    obtain ⟨t0, e4, o4, n4⟩ := oO e2 o2
    rw [wipe_out n3] at s1
    rw [wipe_out n4] at s2
    exact k.sep i j s0 t0 a e3 e4 o3 o4 s1 s2
  · obtain ⟨s, e1, o, e2⟩ := mem_refsOf.mp hp
    have hi : p.1 < δ.length := (List.getElem?_eq_some_iff.mp e1).1
    have n := nv e1 o
    rw [blkEnv_at hi, if_neg n, wipe_out n]
    have e0 : δ[p.1] = s := by rw [List.getElem?_eq_getElem hi] at e1; exact Option.some.inj e1
    rw [e0]
    cases s with
    | own d => exact ⟨d, rfl, e2⟩
    | rf d => exact ⟨d, rfl, e2⟩
    | un => cases o
    | val d => cases o
    | exc c ns ds => cases o
  · obtain ⟨s0, e0, o0, n0⟩ := oO e rfl
    obtain ⟨x, ex, q⟩ := k.at e0
    obtain ⟨a, d', q1, _⟩ := q.ex o0
    exact ⟨(i, a), mem_refsOf.mpr ⟨s0, e0, o0, by rw [ex, q1]⟩, rfl⟩
/-- the block's turn ends -/
theorem Ok.unblock (k : Ok K cl hx R H0 G0 H G σ δ) (hv : vsFree vs δ = true) {σ2 : L2.St} {δ2 : DEnv} (hσ : wipe σ2 vs = wipe σ vs) (k2 : Ok K cl hx (refsOf σ δ) H G H' G' σ2 δ2) :
    Frm ((refsOf σ δ).map (·.2)) H G H' G' ∧ Ok K cl hx R H0 G0 H' G' σ (backEnv δ δ2) := by
  have fr : Frm ((refsOf σ δ).map (·.2)) H G H' G' := ⟨k2.ext, k2.sub, fun b o e hb => k2.kept b o e fun p hp z => hb (List.mem_map.mpr ⟨p, hp, z⟩), k2.new⟩
  refine ⟨fr, k.frame fr (by simp [backEnv]) (fun i s e o => ?_) (fun i s a e o es => ?_) fun a ha => ?_⟩
  · have hi : i < δ.length := (List.getElem?_eq_some_iff.mp e).1
    have e0 : δ[i] = s := by rw [List.getElem?_eq_getElem hi] at e; exact Option.some.inj e
    rw [backEnv_at hi, e0, o]
    rfl
  · have hi : i < δ.length := (List.getElem?_eq_some_iff.mp e).1
    have e0 : δ[i] = s := by rw [List.getElem?_eq_getElem hi] at e; exact Option.some.inj e
    have hp : (i, a) ∈ refsOf σ δ := mem_refsOf.mpr ⟨s, e, o, es⟩
    obtain ⟨d, q1, q2⟩ := k2.refs (i, a) hp
    have q1 : δ2[i]? = some (.rf d) := q1
    obtain ⟨a', z, ga, w⟩ := k2.sl i _ _ q1 q2
    cases z
    refine ⟨d, ?_, ga, w⟩
    rw [backEnv_at hi, e0, o, q1]
    rfl
  · obtain ⟨p, hp, rfl⟩ := List.mem_map.mp ha
    obtain ⟨s, e1, o, e2⟩ := mem_refsOf.mp hp
    exact ⟨p.1, s, e1, o, e2⟩
/-- an object that no slot holds is written -/
theorem Ok.updNew (k : Ok K cl hx R H0 G0 H G σ δ) {p : Addr} {o u : HO} (hp : H p = some u) (gp : G p = none) (h0 : H0 p = none) (hs : ∀ (j : Nat) (t : Sl), δ[j]? = some t → isO t = true → σ[j]? ≠ some (some (.ref p))) : Ok K cl hx R H0 G0 (upd H p o) G σ δ := by
  refine ⟨k.len, fun b v e => by rw [upd_ne (ne_of_none e gp)]; exact k.sub b v e, k.ext, k.new, fun b v e hR => by rw [upd_ne (ne_of_none e h0)]; exact k.kept b v e hR, k.rfree, fun i s x e1 e2 => ?_, k.sep, k.refs, k.rfs⟩
  have q := k.sl i s x e1 e2
  have ne : ∀ b, x = some (.ref b) → isO s = true → b ≠ p := fun b hb hO z => by
    subst z; subst hb
    exact hs i s e1 hO e2
  cases s with
  | un => trivial
  | val d => exact q
  | own d => obtain ⟨b, q1, q2, q3, q4⟩ := q; exact ⟨b, q1, q2, q3, q4.mono (.refl G) fun o z => by rw [upd_ne (ne b q1 rfl)]; exact z⟩
  | rf d => obtain ⟨b, q1, q2, q4⟩ := q; exact ⟨b, q1, q2, q4.mono (.refl G) fun o z => by rw [upd_ne (ne b q1 rfl)]; exact z⟩
  | exc c ns ds => exact q
end

/-! ### [elt for target in iter if ..] -/
def compL (A : D → DEnv → Option DEnv) (t : DT) (el : DE) (vs : List Nat) : List D → DEnv → List D → EO D
  | [], δ, acc => .ok (.lst acc) δ
  | d :: ds, δ, acc => if vsFree vs δ = true then match A d (blkEnv vs δ) with
      | none => .st
      | some δ1 => match t δ1 with
        | .ok false δ2 => compL A t el vs ds (backEnv δ δ2) acc
        | .ok true δ2 => (match el δ2 with
          | .ok x δ3 => if acc.length < sizeLine then compL A t el vs ds (backEnv δ δ3) (acc ++ [x]) else .st
          | _ => .st)
        | _ => .st
    else .st
def dComp (it : DI) (A : D → DEnv → Option DEnv) (t : DT) (el : DE) (vs : List Nat) : DE := fun δ => (it δ).bind fun ds δ1 => compL A t el vs ds δ1 []
def Cf.nox (c : Cf) : Cf := { c with W := fun _ _ _ _ => False }
def tTs (X : Cx) (ifs : List Expr) : TT := fun σ H Q => ∀ pins s, Inv X pins σ H s →
    wpAny (model X.prog X.w) X.A (forIn ifs true fun c r => if r = true then do let ok ← isTrue c X.env (eval c X.env); pure (ForInStep.yield ok) else pure (ForInStep.yield r)) (TP X pins σ Q) X.xe s
theorem ptsS (X : Cx) (ifs : List Expr) : PTs X ifs (tTs X ifs) := ⟨fun pins s _ _ _ I h => h pins s I⟩
def JTs (c : Cf) (X : Cx) (ifs : List Expr) (F : DT) : Prop := ∀ (R : List (Nat × Addr)) (H0 G0 H G : Hp) (σ : L2.St) (δ : DEnv) (Q : Bool → Hp → Prop), (c.fx X R H0 G0).Ok H G σ δ → EPost (c.fx X R H0 G0) c.W σ relB G (F δ) Q → tTs X ifs σ H Q
def bG (X : Cx) (scope : Scope) (tg : Expr) : TG := fun v σ H Q => ∀ (s : Shared) (H1 : Hp) (C : Addr) (cl : List (Str × Addr)) (fp : List Addr), tG (X.blk s H1 scope (compEnvC scope cl C X.env) fp) tg v σ H Q
def bT (X : Cx) (scope : Scope) (ifs : List Expr) : TT := fun σ H Q => ∀ (s : Shared) (H1 : Hp) (C : Addr) (cl : List (Str × Addr)) (fp : List Addr), tTs (X.blk s H1 scope (compEnvC scope cl C X.env) fp) ifs σ H Q
def bE (X : Cx) (scope : Scope) (elt : Expr) : TE := fun σ H Q => ∀ (s : Shared) (H1 : Hp) (C : Addr) (cl : List (Str × Addr)) (fp : List Addr), tE (X.blk s H1 scope (compEnvC scope cl C X.env) fp) elt σ H Q
theorem pgB (X : Cx) (scope : Scope) (tg : Expr) : ∀ (s : Shared) (H : Hp) (C : Addr) (cl : List (Str × Addr)) (fp : List Addr), PG (X.blk s H scope (compEnvC scope cl C X.env) fp) tg (bG X scope tg) :=
  fun s' H' C cl fp => ⟨fun pins s _ _ _ u _ I r h => h s' H' C cl fp pins s u I r⟩
theorem ptB (X : Cx) (scope : Scope) (ifs : List Expr) : ∀ (s : Shared) (H : Hp) (C : Addr) (cl : List (Str × Addr)) (fp : List Addr), PTs (X.blk s H scope (compEnvC scope cl C X.env) fp) ifs (bT X scope ifs) :=
  fun s' H' C cl fp => ⟨fun pins s _ _ _ I h => h s' H' C cl fp pins s I⟩
theorem peB (X : Cx) (scope : Scope) (elt : Expr) : ∀ (s : Shared) (H : Hp) (C : Addr) (cl : List (Str × Addr)) (fp : List Addr), PE (X.blk s H scope (compEnvC scope cl C X.env) fp) elt (bE X scope elt) :=
  fun s' H' C cl fp => ⟨fun pins s _ _ _ I h => h s' H' C cl fp pins s I⟩
def dYes : DT := fun δ => .ok true δ
section
variable {c : Cf} {X : Cx} {tg e : Expr} {pos : Pos}
theorem jts_nil : JTs c X [] dYes := fun R H0 G0 H G σ δ Q k h pins s I => pts_nil.run pins s σ H Q I (h true H G (.refl G) k rfl)
theorem jts_one {t : DT} (ht : JT c X e t) : JTs c X [e] t := fun R H0 G0 H G σ δ Q k h pins s I => (pts_one (ptS X e)).run pins s σ H Q I (ht R H0 G0 H G σ δ Q k h)
theorem lc_ok {elt iter : Expr} {ifs : List Expr} {scope : Scope} {vs ts : List Nat} {it : DI} {A : D → DEnv → Option DEnv} {t : DT} {el : DE} (hi : JI c X tg iter it) (hts : ∀ i ∈ ts, i ∈ vs)
    (hg : ∀ (s : Shared) (H : Hp) (C : Addr) (cl : List (Str × Addr)) (fp : List Addr), JG c.nox (X.blk s H scope (compEnvC scope cl C X.env) fp) tg ts A)
    (ht : ∀ (s : Shared) (H : Hp) (C : Addr) (cl : List (Str × Addr)) (fp : List Addr), JTs c.nox (X.blk s H scope (compEnvC scope cl C X.env) fp) ifs t)
    (he : ∀ (s : Shared) (H : Hp) (C : Addr) (cl : List (Str × Addr)) (fp : List Addr), JE c.nox (X.blk s H scope (compEnvC scope cl C X.env) fp) elt el)
    {R : List (Nat × Addr)} {H0 G0 H G : Hp} {σ : L2.St} {δ : DEnv} {Q : VK} (k : (c.fx X R H0 G0).Ok H G σ δ) (h : FPost (c.fx X R H0 G0) c.W σ G (dComp it A t el vs δ) Q) :
    tLc (tI X tg iter) (bG X scope tg) (bT X scope ifs) (bE X scope elt) vs σ H Q := by
  refine hi R H0 G0 H G σ δ _ k (EPost.imp (FPost.bind (rel := fun _ _ _ => True) h) fun J H1 ⟨G1, ds, δ1, s1, k1, w, h1⟩ => ?_)
  intro Dn nD
  refine ⟨fun i m H' => m = ds.length - i ∧ i ≤ ds.length ∧ ∃ G' δ' accV acc, Sub G1 G' ∧ (c.fx X R H0 G0).Ok H' G' σ δ' ∧ H' Dn = some (.lst accV) ∧ RepL X.K c.cl G' accV acc ∧ G' Dn = none ∧ H0 Dn = none ∧
    (∀ (j : Nat) (t : Sl), δ'[j]? = some t → isO t = true → σ[j]? ≠ some (some (.ref Dn))) ∧ FPost (c.fx X R H0 G0) c.W σ G' (compL A t el vs (ds.drop i) δ' acc) Q, ⟨ds.length, by simp, Nat.zero_le _, G1, δ1, [], [], .refl G1, ?_, upd_same, .nil, k1.freshG nD, k1.freshH0 nD, fun j t e o => k1.freshSl nD e o, by rw [List.drop_zero]; exact h1⟩, ?_⟩
  · exact k1.grow (Grow.fresh k1.sub nD (.lst []))
  rintro i m H2 ⟨rfl, hi2, G2, δ2, accV, acc, s2, k2, hD, racc, gD, h0D, hsD, h2⟩
  obtain ⟨w1, w2⟩ := w H2 G2 s2 k2.sub i
  by_cases hlt : i < ds.length
  · refine .inr ⟨(w1 ds[i] (List.getElem?_eq_getElem hlt)).1, fun H' => i + 1 ≤ ds.length ∧ ∃ G' δ' accV acc, Sub G1 G' ∧ (c.fx X R H0 G0).Ok H' G' σ δ' ∧ H' Dn = some (.lst accV) ∧ RepL X.K c.cl G' accV acc ∧ G' Dn = none ∧ H0 Dn = none ∧
      (∀ (j : Nat) (t : Sl), δ'[j]? = some t → isO t = true → σ[j]? ≠ some (some (.ref Dn))) ∧ FPost (c.fx X R H0 G0) c.W σ G' (compL A t el vs (ds.drop (i + 1)) δ' acc) Q, fun H' hN => ⟨ds.length - (i + 1), by omega, rfl, hN.1, hN.2⟩, fun x H3 y => ?_⟩
    obtain ⟨G3, gr, rx⟩ := (w1 ds[i] (List.getElem?_eq_getElem hlt)).2 x H3 y
    have k3 := k2.grow gr
    have hD3 : H3 Dn = some (.lst accV) := gr.hk _ _ hD
    have gD3 : G3 Dn = none := by
      cases e : G3 Dn with
      | none => rfl
      | some u =>
        rcases gr.gn Dn u e with z | z
        · rw [gD] at z; cases z
        · rw [hD] at z; cases z
    rw [List.drop_eq_getElem_cons hlt] at h2
    unfold compL at h2
    cases hv : vsFree vs δ2 with
    | false => rw [hv] at h2; exact h2.elim
    | true =>
      rw [hv] at h2
      simp only [if_true] at h2
      cases q : A ds[i] (blkEnv vs δ2) with
      | none => simp only [q] at h2; exact h2.elim
      | some δ3 =>
        simp only [q] at h2
        have kb := k3.block hv
        intro ss HH CC cc ff
        refine hg ss HH CC cc ff (refsOf σ δ2) H3 G3 H3 G3 (wipe σ vs) (blkEnv vs δ2) δ3 x ds[i] _ kb rx q fun σ4 k4 hw => ?_
        have hw' : wipe σ4 vs = wipe σ vs := by
          rw [hw vs hts]
          have go : ∀ (l : List Nat), (∀ j ∈ l, j ∈ vs) → wipe (wipe σ vs) l = wipe σ vs := by
            intro l
            induction l with
            | nil => intro _; rfl
            | cons j l ih =>
              intro hl
              show (wipe (wipe σ vs) l).set j none = wipe σ vs
              rw [ih fun z hz => hl z (List.mem_cons_of_mem _ hz)]
              refine List.ext_getElem? fun n => ?_
              by_cases hn : j = n
              · subst hn
                by_cases hj : j < (wipe σ vs).length
                · rw [List.getElem?_set_self hj, wipe_in (hl j List.mem_cons_self) (by rw [wipe_length] at hj; exact hj)]
                · rw [List.getElem?_eq_none (by simpa using hj), List.getElem?_eq_none (by simpa using hj)]
              · rw [List.getElem?_set_ne hn]
          exact go vs fun _ z => z
        -- the turn's end
        have fin : ∀ {H5 G5 : Hp} {δ5 : DEnv}, Sub G3 G5 → DL.Ok X.K c.cl c.hx (refsOf σ δ2) H3 G3 H5 G5 σ4 δ5 → (c.fx X R H0 G0).Ok H5 G5 σ (backEnv δ2 δ5) ∧ H5 Dn = some (.lst accV) ∧ G5 Dn = none ∧ (∀ (j : Nat) (t : Sl), (backEnv δ2 δ5)[j]? = some t → isO t = true → σ[j]? ≠ some (some (.ref Dn))) := fun {H5 G5 δ5} s5 k5 => by
          obtain ⟨fr, k6⟩ := k3.unblock hv hw' k5
          refine ⟨k6, fr.kept _ _ hD3 fun hm => ?_, ?_, fun j u e o => ?_⟩
          · obtain ⟨p, hp, e⟩ := List.mem_map.mp hm
            obtain ⟨s, e1, o, e2⟩ := mem_refsOf.mp hp
            rw [e] at e2
            exact hsD p.1 s e1 o e2
          · cases e : G5 Dn with
            | none => rfl
            | some u =>
              rcases fr.new Dn u e with z | z
              · rw [gD3] at z; cases z
              · rw [hD3] at z; cases z
          · have hj : j < δ2.length := by
              have := (List.getElem?_eq_some_iff.mp e).1
              simpa [backEnv] using this
            have e0 := backEnv_at (δ' := δ5) hj
            rw [e] at e0
            have e0 := Option.some.inj e0
            refine hsD j δ2[j] (List.getElem?_eq_getElem hj) ?_
            cases ho : isO δ2[j] with
            | true => rfl
            | false => rw [ho] at e0; simp only [Bool.false_eq_true, if_false] at e0; rw [e0, ho] at o; cases o
        refine ⟨hw', ?_⟩
        intro ss2 HH2 CC2 cc2 ff2
        refine ht ss2 HH2 CC2 cc2 ff2 (refsOf σ δ2) H3 G3 H3 G3 σ4 δ3 _ k4 ?_
        cases q2 : t δ3 with
        | ok b δ4 =>
          intro b' H5 G5 s5 k5 rb
          have rb : b' = b := rb
          subst rb
          cases b' with
          | false =>
            simp only [q2] at h2
            simp only [Bool.false_eq_true, if_false]
            obtain ⟨k6, d6, g6, n6⟩ := fin s5 k5
            exact ⟨hlt, G5, _, accV, acc, (s2.trans gr.gk).trans s5, k6, d6, racc.mono (gr.gk.trans s5), g6, h0D, n6, FPost.weak (gr.gk.trans s5) h2⟩
          | true =>
            simp only [q2] at h2
            simp only [if_true]
            intro ss3 HH3 CC3 cc3 ff3
            refine he ss3 HH3 CC3 cc3 ff3 (refsOf σ δ2) H3 G3 H5 G5 σ4 δ4 _ k5 ?_
            cases q3 : el δ4 with
            | ok z δ5 =>
              simp only [q3] at h2
              intro y' H6 G6 s6 k6 ry
              by_cases hz : acc.length < sizeLine
              · rw [if_pos hz] at h2
                obtain ⟨k7, d7, g7, n7⟩ := fin (s5.trans s6) k6
                have sg := (gr.gk.trans s5).trans s6
                refine ⟨accV, d7, by rw [racc.length]; exact hz, hlt, G6, _, accV ++ [y'], acc ++ [z], (s2.trans sg), k7.updNew d7 g7 h0D n7, upd_same, (racc.mono sg).append (.cons ry .nil), g7, h0D, n7, FPost.weak sg h2⟩
              · rw [if_neg hz] at h2; exact h2.elim
            | ex cn ns es δ5 => simp only [q3] at h2; exact h2.elim
            | st => simp only [q3] at h2; exact h2.elim
        | ex cn ns es δ4 => simp only [q2] at h2; exact h2.elim
        | st => simp only [q2] at h2; exact h2.elim
  · have e : i = ds.length := by omega
    rw [e, List.drop_eq_nil_of_le (Nat.le_refl _)] at h2
    exact .inl ⟨w2 e, h2 Dn H2 G2 (.refl G2) k2 gD h0D ⟨accV, hD, racc⟩ hsD⟩
theorem jf_comp {elt iter : Expr} {ifs : List Expr} {scope : Scope} {own : List (Str × Nat)} {ts : List Nat} {it : DI} {A : D → DEnv → Option DEnv} {t : DT} {el : DE} (hc : X.calm = true) (hN : X.N.Nodup) (hi : JI c X tg iter it) (ok : BlkOk X.N X.env.scope scope own)
    (hts : ∀ i ∈ ts, i ∈ own.map (·.2))
    (hg : ∀ (s : Shared) (H : Hp) (C : Addr) (cl : List (Str × Addr)) (fp : List Addr), JG c.nox (X.blk s H scope (compEnvC scope cl C X.env) fp) tg ts A)
    (ht : ∀ (s : Shared) (H : Hp) (C : Addr) (cl : List (Str × Addr)) (fp : List Addr), JTs c.nox (X.blk s H scope (compEnvC scope cl C X.env) fp) ifs t)
    (he : ∀ (s : Shared) (H : Hp) (C : Addr) (cl : List (Str × Addr)) (fp : List Addr), JE c.nox (X.blk s H scope (compEnvC scope cl C X.env) fp) elt el) (hs : ∀ x, foldedSetIterable iter X.env x = pure x := by intro _; rfl) :
    JF c X (.ListComp elt [⟨tg, iter, ifs, 0⟩] scope pos) (dComp it A t el (own.map (·.2))) := fun R H0 G0 H G σ δ Q k h pins s I => by
  refine (pe_lc hc hN (piS X tg iter) ok (pgB X scope tg) (ptB X scope ifs) (peB X scope elt) hs).run pins s σ H Q I ?_
  exact lc_ok hi hts hg ht he k h
end
end DL

set_option maxRecDepth 100000
set_option maxHeartbeats 4000000
namespace DL
open PySem PySem.Spec PyProof.Rows L2

/-! ### operators by data -/
section
variable {K : PySem.W.Frag} {cl : Cw}
def gI (C : Int → Int → Bool) (f : Int → Int → Int) : D → D → Option D
  | .int i, .int j => if C i j = true then some (.int (f i j)) else none
  | _, _ => none
def gB (f : Int → Int → Bool) : D → D → Option D
  | .int i, .int j => some (.bl (f i j))
  | _, _ => none
theorem bin_int {C : Int → Int → Bool} {C' : Int → Int → Prop} {f : Int → Int → Int} (h : ∀ i j, C i j = true → C' i j) : BinOk K cl (rI C' fun i j => .int (f i j)) (gI C f) := fun H G x y d e z Q s r1 r2 g q => by
  cases r1 with
  | int i =>
    cases r2 with
    | int j =>
      simp only [gI] at g
      by_cases hc : C i j = true
      · rw [if_pos hc] at g; cases g
        exact ⟨i, j, rfl, rfl, h i j hc, q _ H G (.refl s) (.int _)⟩
      · rw [if_neg hc] at g; cases g
    | _ => cases g
  | _ => cases g
theorem bin_int0 {f : Int → Int → Int} : BinOk K cl (rI0 fun i j => .int (f i j)) (gI (fun _ _ => true) f) := fun H G x y d e z Q s r1 r2 g q => by
  cases r1 with
  | int i =>
    cases r2 with
    | int j => cases g; exact ⟨i, j, rfl, rfl, q _ H G (.refl s) (.int _)⟩
    | _ => cases g
  | _ => cases g
theorem bin_bool {f : Int → Int → Bool} : BinOk K cl (rI0 fun i j => .bl (f i j)) (gB f) := fun H G x y d e z Q s r1 r2 g q => by
  cases r1 with
  | int i =>
    cases r2 with
    | int j => cases g; exact ⟨i, j, rfl, rfl, q _ H G (.refl s) (.bl _)⟩
    | _ => cases g
  | _ => cases g
/-- + -/
def gAdd : D → D → Option D
  | .int i, .int j => some (.int (i + j))
  | .str x, .str y => if x.length + y.length ≤ sizeLine then some (.str (x ++ y)) else none
  | .tup xs, .tup ys => if xs.length + ys.length ≤ sizeLine then some (.tup (xs ++ ys)) else none
  | .lst xs, .lst ys => if xs.length + ys.length ≤ sizeLine then some (.lst (xs ++ ys)) else none
  | _, _ => none
def rStrAdd : R2 := fun x y H Q => ∃ i j, x = .str i ∧ y = .str j ∧ i.length + j.length ≤ sizeLine ∧ Q (.str (i ++ j)) H
def rAddA (K : PySem.W.Frag) : R2 := fun x y H Q => rI0 (fun i j => .int (i + j)) x y H Q ∨ (rStrAdd x y H Q ∨ (rCatA K x y H Q ∨ rCat x y H Q))
theorem op_addA {X : Cx} : OpR X (binaryOp .Add) (rAddA X.K) := op_add.or (op_add_str.or (op_catA.or op_cat))
theorem bin_add : BinOk K cl (rAddA K) gAdd := fun H G x y d e z Q s r1 r2 g q => by
  cases r1 with
  | int i =>
    cases r2 with
    | int j => cases g; exact .inl ⟨i, j, rfl, rfl, q _ H G (.refl s) (.int _)⟩
    | _ => cases g
  | str a =>
    cases r2 with
    | str b =>
      simp only [gAdd] at g
      by_cases hl : a.length + b.length ≤ sizeLine
      · rw [if_pos hl] at g; cases g
        exact .inr (.inl ⟨a, b, rfl, rfl, hl, q _ H G (.refl s) (.str _)⟩)
      · rw [if_neg hl] at g; cases g
    | _ => cases g
  | @tup a xs ds h1 h2 =>
    cases r2 with
    | @tup b ys es h3 h4 =>
      simp only [gAdd] at g
      by_cases hl : ds.length + es.length ≤ sizeLine
      · rw [if_pos hl] at g; cases g
        refine .inr (.inr (.inl ⟨a, b, xs, ys, rfl, rfl, .inl (.inl (s _ _ h1)), .inl (.inl (s _ _ h3)), by rw [h2.length, h4.length]; exact hl, fun e => ?_, fun ne e => ?_, fun _ _ p np => ?_⟩))
        · subst e
          cases h2
          exact q _ H G (.refl s) (.tup h3 h4)
        · subst e
          cases h4
          exact q _ H G (.refl s) (.tup h1 (by rw [List.append_nil]; exact h2))
        · have gr := Grow.froze s np (.tup (xs ++ ys))
          exact q _ _ _ gr (.tup upd_same ((h2.append h4).mono gr.gk))
      · rw [if_neg hl] at g; cases g
    | _ => cases g
  | @lst a xs ds h1 h2 =>
    cases r2 with
    | @lst b ys es h3 h4 =>
      simp only [gAdd] at g
      by_cases hl : ds.length + es.length ≤ sizeLine
      · rw [if_pos hl] at g; cases g
        refine .inr (.inr (.inr ⟨a, b, xs, ys, rfl, rfl, s _ _ h1, s _ _ h3, by rw [h2.length, h4.length]; exact hl, fun p np => ?_⟩))
        have gr := Grow.froze s np (.lst (xs ++ ys))
        exact q _ _ _ gr (.lst upd_same ((h2.append h4).mono gr.gk))
      · rw [if_neg hl] at g; cases g
    | _ => cases g
  | _ => cases g
/-! ### == -/
mutual
def toPy : D → Option PyData
  | .non => some .none
  | .bl b => some (.bool b)
  | .int i => some (.int i)
  | .str x => some (.str x)
  | .lst ds => (toPyL ds).map .list
  | .tup ds => (toPyL ds).map .tuple
  | .dct _ _ => none
  | .ins _ _ _ => none
  | .scr _ => none
  | .set _ => none
def toPyL : List D → Option (List PyData)
  | [] => some []
  | d :: ds => (toPy d).bind fun p => (toPyL ds).map fun ps => p :: ps
end
mutual
theorem Rep.dp {H G : Hp} (s : Sub G H) : ∀ {d : D} {v : V} {p : PyData}, Rep K cl G v d → toPy d = some p → Dp K H v p
  | .non, _, _, h, e => by cases h; cases e; exact .non
  | .bl b, _, _, h, e => by cases h; cases e; exact .bl b
  | .int i, _, _, h, e => by cases h; cases e; exact .int i
  | .str x, _, _, h, e => by cases h; cases e; exact .str x
  | .lst ds, _, _, h, e => by
    cases h with
    | lst h1 h2 =>
      simp only [toPy, Option.map_eq_some_iff] at e
      obtain ⟨ps, e1, rfl⟩ := e
      exact .lst (.inl (.inl (s _ _ h1))) (RepL.dp s h2 e1)
  | .tup ds, _, _, h, e => by
    cases h with
    | tup h1 h2 =>
      simp only [toPy, Option.map_eq_some_iff] at e
      obtain ⟨ps, e1, rfl⟩ := e
      exact .tup (.inl (.inl (s _ _ h1))) (RepL.dp s h2 e1)
  | .dct _ _, _, _, h, e => by simp [toPy] at e
  | .ins _ _ _, _, _, h, e => by simp [toPy] at e
  | .scr _, _, _, h, e => by simp [toPy] at e
  | .set _, _, _, h, e => by simp [toPy] at e
theorem RepL.dp {H G : Hp} (s : Sub G H) : ∀ {ds : List D} {vs : List V} {ps : List PyData}, RepL K cl G vs ds → toPyL ds = some ps → DpAll K H vs ps
  | [], _, _, h, e => by cases h; simp only [toPyL] at e; cases e; exact .nil
  | d :: ds, _, _, h, e => by
    cases h with
    | cons h1 h2 =>
      simp only [toPyL, Option.bind_eq_some_iff, Option.map_eq_some_iff] at e
      obtain ⟨p, e1, ps, e2, rfl⟩ := e
      exact .cons (Rep.dp s h1 e1) (RepL.dp s h2 e2)
end
def gEq (neg : Bool) (d e : D) : Option D := match toPy d, toPy e with
  | some p, some q => if SeqAt.shaped p = true ∧ SeqAt.shaped q = true then some (.bl (if neg then !PyData.eqv p q else PyData.eqv p q)) else none
  | _, _ => none
theorem bin_eq : BinOk K cl (rEqD K) (gEq false) := fun H G x y d e z Q s r1 r2 g q => by
  unfold gEq at g
  cases h1 : toPy d with
  | none => rw [h1] at g; cases g
  | some p =>
    cases h2 : toPy e with
    | none => rw [h1, h2] at g; cases g
    | some p2 =>
      rw [h1, h2] at g
      dsimp only at g
      by_cases hs : SeqAt.shaped p = true ∧ SeqAt.shaped p2 = true
      · rw [if_pos hs] at g; cases g
        exact ⟨p, p2, r1.dp s h1, r2.dp s h2, hs.1, hs.2, q _ H G (.refl s) (.bl _)⟩
      · rw [if_neg hs] at g; cases g
theorem bin_ne : BinOk K cl (rNeD K) (gEq true) := fun H G x y d e z Q s r1 r2 g q => by
  unfold gEq at g
  cases h1 : toPy d with
  | none => rw [h1] at g; cases g
  | some p =>
    cases h2 : toPy e with
    | none => rw [h1, h2] at g; cases g
    | some p2 =>
      rw [h1, h2] at g
      dsimp only at g
      by_cases hs : SeqAt.shaped p = true ∧ SeqAt.shaped p2 = true
      · rw [if_pos hs] at g; cases g
        exact ⟨p, p2, r1.dp s h1, r2.dp s h2, hs.1, hs.2, q _ H G (.refl s) (.bl _)⟩
      · rw [if_neg hs] at g; cases g
/-! ### is -/
def gIs (neg : Bool) : D → D → Option D
  | .bl a, .bl b => some (.bl (if neg then !decide (a = b) else decide (a = b)))
  | .non, .non => some (.bl (!neg))
  | _, .non => some (.bl neg)
  | _, _ => none
def rIsA : R2 := fun x y H Q => (y = .non ∧ Q (.bl (decide (x = .non))) H) ∨ rIsB x y H Q
def rNotA : R2 := fun x y H Q => (y = .non ∧ Q (.bl (!decide (x = .non))) H) ∨ rNotB x y H Q
theorem op_isA {X : Cx} : OpR X (compareOp .Is) rIsA := op_isN.or op_isBl
theorem op_notA {X : Cx} : OpR X (compareOp .IsNot) rNotA := op_notN.or op_notBl
theorem bin_is : BinOk K cl rIsA (gIs false) := fun H G x y d e z Q s r1 r2 g q => by
  cases r2 with
  | non =>
    refine .inl ⟨rfl, ?_⟩
    cases r1 <;> (cases g; exact q _ H G (.refl s) (.bl _))
  | bl b =>
    cases r1 with
    | bl a => cases g; exact .inr ⟨a, b, rfl, rfl, q _ H G (.refl s) (.bl _)⟩
    | _ => cases g
  | _ => cases r1 <;> cases g
theorem bin_isnot : BinOk K cl rNotA (gIs true) := fun H G x y d e z Q s r1 r2 g q => by
  cases r2 with
  | non =>
    refine .inl ⟨rfl, ?_⟩
    cases r1 <;> (cases g; exact q _ H G (.refl s) (.bl _))
  | bl b =>
    cases r1 with
    | bl a => cases g; exact .inr ⟨a, b, rfl, rfl, q _ H G (.refl s) (.bl _)⟩
    | _ => cases g
  | _ => cases r1 <;> cases g
end
section
variable {c : Cf} {X : Cx} {a b : Expr} {fa fb : DE} {pos : Pos}
/-! ### the operators' rules -/
theorem je_add (ha : JE c X a fa) (hb : JE c X b fb) : JE c X (.BinOp a .Add b pos) (dBin gAdd fa fb) := je_op op_addA bin_add ha hb
theorem je_sub (ha : JE c X a fa) (hb : JE c X b fb) : JE c X (.BinOp a .Sub b pos) (dBin (gI (fun _ _ => true) fun i j => i - j) fa fb) := je_op op_sub bin_int0 ha hb
def cMul (i j : Int) : Bool := decide (i.natAbs.log2 + j.natAbs.log2 < 1000000)
theorem je_mul (ha : JE c X a fa) (hb : JE c X b fb) : JE c X (.BinOp a .Mult b pos) (dBin (gI cMul fun i j => i * j) fa fb) := je_op op_mulW (bin_int fun i j h => of_decide_eq_true (p := i.natAbs.log2 + j.natAbs.log2 < 1000000) h) ha hb
def cDiv (_ j : Int) : Bool := decide (0 < j ∧ j.natAbs.log2 < 9000)
theorem je_div (ha : JE c X a fa) (hb : JE c X b fb) : JE c X (.BinOp a .FloorDiv b pos) (dBin (gI cDiv fun i j => i / j) fa fb) := je_op op_fdivW (bin_int fun i j h => of_decide_eq_true (p := 0 < j ∧ j.natAbs.log2 < 9000) h) ha hb
def cPos (_ j : Int) : Bool := decide (0 < j)
theorem je_mod (ha : JE c X a fa) (hb : JE c X b fb) : JE c X (.BinOp a .Mod b pos) (dBin (gI cPos fun i j => i % j) fa fb) := je_op op_mod (bin_int fun i j h => of_decide_eq_true h) ha hb
def cPow (i j : Int) : Bool := decide (0 ≤ j ∧ j ≤ 1000000 ∧ i.natAbs < 2 ^ 64)
theorem je_pow (ha : JE c X a fa) (hb : JE c X b fb) : JE c X (.BinOp a .Pow b pos) (dBin (gI cPow fun i j => i ^ j.toNat) fa fb) := je_op op_pow (bin_int fun i j h => of_decide_eq_true (p := 0 ≤ j ∧ j ≤ 1000000 ∧ i.natAbs < 2 ^ 64) h) ha hb
theorem je_shl (ha : JE c X a fa) (hb : JE c X b fb) : JE c X (.BinOp a .LShift b pos) (dBin (gI cPow fun i j => i * 2 ^ j.toNat) fa fb) := je_op op_shl (bin_int fun i j h => of_decide_eq_true (p := 0 ≤ j ∧ j ≤ 1000000 ∧ i.natAbs < 2 ^ 64) h) ha hb
def cNon (_ j : Int) : Bool := decide (0 ≤ j)
theorem je_shr (ha : JE c X a fa) (hb : JE c X b fb) : JE c X (.BinOp a .RShift b pos) (dBin (gI cNon fun i j => i / 2 ^ j.toNat) fa fb) := je_op op_shr (bin_int fun i j h => of_decide_eq_true h) ha hb
theorem je_band (ha : JE c X a fa) (hb : JE c X b fb) : JE c X (.BinOp a .BitAnd b pos) (dBin (gI (fun _ _ => true) Builtin.bitAnd) fa fb) := je_op op_and bin_int0 ha hb
theorem je_bor (ha : JE c X a fa) (hb : JE c X b fb) : JE c X (.BinOp a .BitOr b pos) (dBin (gI (fun _ _ => true) Builtin.bitOr) fa fb) := je_op op_or bin_int0 ha hb
theorem je_bxor (ha : JE c X a fa) (hb : JE c X b fb) : JE c X (.BinOp a .BitXor b pos) (dBin (gI (fun _ _ => true) Builtin.bitXor) fa fb) := je_op op_xor bin_int0 ha hb
/-- what an operator of comparison is by data -/
structure CmpR (c : Cf) (X : Cx) (op : CmpOp) (r : R2) (g : D → D → Option D) : Prop where
  op : OpR X (compareOp op) r
  ok : BinOk X.K c.cl r g
theorem cr_lt : CmpR c X .Lt (rI0 fun i j => .bl (decide (i < j))) (gB fun i j => decide (i < j)) := ⟨op_lt, bin_bool⟩
theorem cr_le : CmpR c X .LtE (rI0 fun i j => .bl (decide (i ≤ j))) (gB fun i j => decide (i ≤ j)) := ⟨op_le, bin_bool⟩
theorem cr_gt : CmpR c X .Gt (rI0 fun i j => .bl (decide (j < i))) (gB fun i j => decide (j < i)) := ⟨op_gt, bin_bool⟩
theorem cr_ge : CmpR c X .GtE (rI0 fun i j => .bl (decide (j ≤ i))) (gB fun i j => decide (j ≤ i)) := ⟨op_ge, bin_bool⟩
theorem cr_eq (hu : X.A.units + 64 < cLine) : CmpR c X .Eq (rEqD X.K) (gEq false) := ⟨op_eqD hu, bin_eq⟩
theorem cr_ne (hu : X.A.units + 64 < cLine) : CmpR c X .NotEq (rNeD X.K) (gEq true) := ⟨op_neD hu, bin_ne⟩
theorem cr_is : CmpR c X .Is rIsA (gIs false) := ⟨op_isA, bin_is⟩
theorem cr_isnot : CmpR c X .IsNot rNotA (gIs true) := ⟨op_notA, bin_isnot⟩
theorem je_cm {op : CmpOp} {r : R2} {g : D → D → Option D} (h : CmpR c X op r g) (ha : JE c X a fa) (hb : JE c X b fb) (hm : behindInMarks op b = false := by first | exact nomark _ | with_unfolding_all rfl) : JE c X (.Compare a [op] [b] pos) (dBin g fa fb) := je_cmp h.op h.ok ha hb hm
theorem jt_cm {op : CmpOp} {r : R2} {g : D → D → Option D} (h : CmpR c X op r g) (ha : JE c X a fa) (hb : JE c X b fb) (hm : behindInMarks op b = false := by first | exact nomark _ | with_unfolding_all rfl) : JT c X (.Compare a [op] [b] pos) (dTest (dBin g fa fb)) := jt_cmp h.op h.ok ha hb hm
/-- unary -/
def dUn (g : D → Option D) (fa : DE) : DE := fun δ => (fa δ).bind fun x δ1 => match g x with
  | some z => .ok z δ1
  | none => .st
def gU (f : Int → Int) : D → Option D
  | .int i => some (.int (f i))
  | _ => none
theorem je_un {op : UnaryOp} {f : Int → Int} (ho : UnR X (unaryOp op) (rU fun i => .int (f i))) (ha : JE c X a fa) : JE c X (.UnaryOp op a pos) (dUn (gU f) fa) := by
  refine je_of (pe_un ho (peS X a)) fun R H0 G0 H G σ δ Q k h => ?_
  refine ha R H0 G0 H G σ δ _ k (EPost.imp (EPost.bind h) fun x H1 ⟨G1, d, δ1, s1, k1, r1, h1⟩ => ?_)
  cases r1 with
  | int i => exact ⟨i, rfl, h1 _ H1 G1 (.refl G1) k1 (.int _)⟩
  | _ => exact h1.elim
theorem je_neg (ha : JE c X a fa) : JE c X (.UnaryOp .USub a pos) (dUn (gU fun i => -i) fa) := je_un un_neg ha
theorem je_inv (ha : JE c X a fa) : JE c X (.UnaryOp .Invert a pos) (dUn (gU Builtin.bitNot) fa) := je_un un_inv ha
def dNot (fa : DE) : DE := fun δ => (fa δ).bind fun x δ1 => match dTruth x with
  | some b => .ok (.bl (!b)) δ1
  | none => .st
theorem je_not (ha : JE c X a fa) : JE c X (.UnaryOp .Not a pos) (dNot fa) := by
  refine je_of (pe_notT (peS X a)) fun R H0 G0 H G σ δ Q k h => ?_
  refine ha R H0 G0 H G σ δ _ k (EPost.imp (EPost.bind h) fun x H1 ⟨G1, d, δ1, s1, k1, r1, h1⟩ => ?_)
  cases q : dTruth d with
  | none => rw [q] at h1; exact h1.elim
  | some b => rw [q] at h1; exact ⟨b, truth_ok k1.sub r1 q, h1 _ H1 G1 (.refl G1) k1 (.bl _)⟩
/-- and, or of values -/
def dAnd (fa fb : DE) : DE := fun δ => (fa δ).bind fun x δ1 => match dTruth x with
  | some true => fb δ1
  | some false => .ok x δ1
  | none => .st
def dOr (fa fb : DE) : DE := fun δ => (fa δ).bind fun x δ1 => match dTruth x with
  | some true => .ok x δ1
  | some false => fb δ1
  | none => .st
theorem je_one {op : BoolOp} (ha : JE c X a fa) : JE c X (.BoolOp op [a] pos) fa := je_of (pe_one (peS X a)) fun R H0 G0 H G σ δ Q k h => ha R H0 G0 H G σ δ Q k h
theorem je_and {rest : List Expr} (ha : JE c X a fa) (hb : JE c X (.BoolOp .And (b :: rest) pos) fb) : JE c X (.BoolOp .And (a :: b :: rest) pos) (dAnd fa fb) := by
  refine je_of (pe_andT (peS X a) (peS X _)) fun R H0 G0 H G σ δ Q k h => ?_
  refine ha R H0 G0 H G σ δ _ k (EPost.imp (EPost.bind h) fun x H1 ⟨G1, d, δ1, s1, k1, r1, h1⟩ => ?_)
  cases q : dTruth d with
  | none => rw [q] at h1; exact h1.elim
  | some t =>
    rw [q] at h1
    refine ⟨t, truth_ok k1.sub r1 q, ?_⟩
    cases t with
    | true => exact hb R H0 G0 H1 G1 σ δ1 Q k1 h1
    | false => exact h1 _ H1 G1 (.refl G1) k1 r1
theorem je_or {rest : List Expr} (ha : JE c X a fa) (hb : JE c X (.BoolOp .Or (b :: rest) pos) fb) : JE c X (.BoolOp .Or (a :: b :: rest) pos) (dOr fa fb) := by
  refine je_of (pe_orT (peS X a) (peS X _)) fun R H0 G0 H G σ δ Q k h => ?_
  refine ha R H0 G0 H G σ δ _ k (EPost.imp (EPost.bind h) fun x H1 ⟨G1, d, δ1, s1, k1, r1, h1⟩ => ?_)
  cases q : dTruth d with
  | none => rw [q] at h1; exact h1.elim
  | some t =>
    rw [q] at h1
    refine ⟨t, truth_ok k1.sub r1 q, ?_⟩
    cases t with
    | true => exact h1 _ H1 G1 (.refl G1) k1 r1
    | false => exact hb R H0 G0 H1 G1 σ δ1 Q k1 h1
/-- as tests -/
def tAndD (ta tb : DT) : DT := fun δ => (ta δ).bind fun x δ1 => if x = true then tb δ1 else .ok false δ1
def tOrD (ta tb : DT) : DT := fun δ => (ta δ).bind fun x δ1 => if x = true then .ok true δ1 else tb δ1
def tNotD (ta : DT) : DT := fun δ => (ta δ).bind fun x δ1 => .ok (!x) δ1
variable {ft gt : DT} {rest : List Expr}
theorem JW.jt (h : JW c X a ft) : JT c X a ft := fun R H0 G0 H G σ δ Q k h' pins s I => h R H0 G0 H G σ δ Q k h' _ pins s I
theorem jw_and1 (ha : JT c X a ft) : JW c X (.BoolOp .And [a] pos) ft := jw_of (pw_and1 (ptS X a)) fun R H0 G0 H G σ δ Q k h => ha R H0 G0 H G σ δ Q k h
theorem jw_or1 (ha : JT c X a ft) : JW c X (.BoolOp .Or [a] pos) ft := jw_of (pw_or1 (ptS X a)) fun R H0 G0 H G σ δ Q k h => ha R H0 G0 H G σ δ Q k h
theorem jw_and (ha : JT c X a ft) (hb : JW c X (.BoolOp .And (b :: rest) pos) gt) : JW c X (.BoolOp .And (a :: b :: rest) pos) (tAndD ft gt) := by
  refine jw_of (pw_and (ptS X a) (pwS X _)) fun R H0 G0 H G σ δ Q k h => ?_
  refine ha R H0 G0 H G σ δ _ k (EPost.imp (EPost.bind (rel := relB) h) fun x H1 ⟨G1, d, δ1, s1, k1, r1, h1⟩ => ?_)
  have r1 : x = d := r1
  subst r1
  cases x with
  | true => exact hb R H0 G0 H1 G1 σ δ1 Q k1 h1
  | false => exact h1 _ H1 G1 (.refl G1) k1 rfl
theorem jw_or (ha : JT c X a ft) (hb : JW c X (.BoolOp .Or (b :: rest) pos) gt) : JW c X (.BoolOp .Or (a :: b :: rest) pos) (tOrD ft gt) := by
  refine jw_of (pw_or (ptS X a) (pwS X _)) fun R H0 G0 H G σ δ Q k h => ?_
  refine ha R H0 G0 H G σ δ _ k (EPost.imp (EPost.bind (rel := relB) h) fun x H1 ⟨G1, d, δ1, s1, k1, r1, h1⟩ => ?_)
  have r1 : x = d := r1
  subst r1
  cases x with
  | true => exact h1 _ H1 G1 (.refl G1) k1 rfl
  | false => exact hb R H0 G0 H1 G1 σ δ1 Q k1 h1
theorem jt_not (ha : JT c X a ft) : JT c X (.UnaryOp .Not a pos) (tNotD ft) := by
  refine jt_of (pt_not (ptS X a)) fun R H0 G0 H G σ δ Q k h => ?_
  refine ha R H0 G0 H G σ δ _ k (EPost.imp (EPost.bind (rel := relB) h) fun x H1 ⟨G1, d, δ1, s1, k1, r1, h1⟩ => ?_)
  have r1 : x = d := r1
  subst r1
  exact h1 _ H1 G1 (.refl G1) k1 rfl
/-- a if t else b -/
def dIf (t : DT) (fa fb : DE) : DE := fun δ => (t δ).bind fun x δ1 => if x = true then fa δ1 else fb δ1
theorem je_if {t : Expr} (ht : JT c X t ft) (ha : JE c X a fa) (hb : JE c X b fb) : JE c X (.IfExp t a b pos) (dIf ft fa fb) := by
  refine je_of (pe_ifExp (ptS X t) (peS X a) (peS X b)) fun R H0 G0 H G σ δ Q k h => ?_
  refine ht R H0 G0 H G σ δ _ k (EPost.imp (EPost.bind (rel := relB) h) fun x H1 ⟨G1, d, δ1, s1, k1, r1, h1⟩ => ?_)
  have r1 : x = d := r1
  subst r1
  cases x with
  | true => exact ha R H0 G0 H1 G1 σ δ1 Q k1 h1
  | false => exact hb R H0 G0 H1 G1 σ δ1 Q k1 h1
/-- a op b op' e -/
def dChain (g g' : D → D → Option D) (fa fb fe : DE) : DE := fun δ => (fa δ).bind fun x δ1 => (fb δ1).bind fun y δ2 => match g x y with
  | some (.bl true) => (fe δ2).bind fun z δ3 => (match g' y z with
    | some w => .ok w δ3
    | none => .st)
  | some (.bl false) => .ok (.bl false) δ2
  | _ => .st
theorem chain_ok {e : Expr} {fe : DE} {r r' : R2} {g g' : D → D → Option D} (h1 : BinOk X.K c.cl r g) (h2 : BinOk X.K c.cl r' g') (ha : JE c X a fa) (hb : JE c X b fb) (he : JE c X e fe) {R : List (Nat × Addr)} {H0 G0 H G : Hp} {σ : L2.St} {δ : DEnv} {Q : VK} (k : (c.fx X R H0 G0).Ok H G σ δ)
    (h : EPost (c.fx X R H0 G0) c.W σ (relD X.K c.cl) G (dChain g g' fa fb fe δ) Q) : tChain r r' (tE X a) (tE X b) (tE X e) σ H Q := by
  refine ha R H0 G0 H G σ δ _ k (EPost.imp (EPost.bind h) fun x H1 ⟨G1, d1, δ1, s1, k1, r1, q1⟩ => ?_)
  refine hb R H0 G0 H1 G1 σ δ1 _ k1 (EPost.imp (EPost.bind q1) fun y H2 ⟨G2, d2, δ2, s2, k2, r2, q2⟩ => ?_)
  cases q : g d1 d2 with
  | none => rw [q] at q2; exact q2.elim
  | some z =>
    rw [q] at q2
    refine h1 H2 G2 x y d1 d2 z _ k2.sub (Rep.mono s2 r1) r2 q fun v H' G' gr rv => ?_
    cases z with
    | bl t =>
      cases rv
      refine ⟨t, rfl, ?_⟩
      have k3 := k2.grow gr
      have q3 := EPost.weak gr.gk q2
      cases t with
      | false => exact q3 (.bl false) H' G' (.refl G') k3 (.bl false)
      | true =>
        rw [if_pos rfl]
        refine he R H0 G0 H' G' σ δ2 _ k3 (EPost.imp (EPost.bind q3) fun w H3 ⟨G3, d3, δ3, s3, k4, r3, q4⟩ => ?_)
        cases qz : g' d2 d3 with
        | none => rw [qz] at q4; exact q4.elim
        | some z2 =>
          rw [qz] at q4
          exact h2 H3 G3 y w d2 d3 z2 Q k4.sub (Rep.mono (gr.gk.trans s3) r2) r3 qz fun v H' G' gr2 rv => q4 v H' G' gr2.gk (k4.grow gr2) rv
    | _ => exact q2.elim
theorem je_chain {e : Expr} {fe : DE} {op op' : CmpOp} {r r' : R2} {g g' : D → D → Option D} (h1 : CmpR c X op r g) (h2 : CmpR c X op' r' g') (ha : JE c X a fa) (hb : JE c X b fb) (he : JE c X e fe) (hm : lastMarks [op, op'] [b, e] = false := by with_unfolding_all rfl) :
    JE c X (.Compare a [op, op'] [b, e] pos) (dChain g g' fa fb fe) := je_of (pe_chain h1.op h2.op (peS X a) (peS X b) (peS X e) hm) fun R H0 G0 H G σ δ Q k h => chain_ok h1.ok h2.ok ha hb he k h
theorem jt_chain {e : Expr} {fe : DE} {op op' : CmpOp} {r r' : R2} {g g' : D → D → Option D} (h1 : CmpR c X op r g) (h2 : CmpR c X op' r' g') (ha : JE c X a fa) (hb : JE c X b fb) (he : JE c X e fe) (hm : lastMarks [op, op'] [b, e] = false := by with_unfolding_all rfl) :
    JT c X (.Compare a [op, op'] [b, e] pos) (dTest (dChain g g' fa fb fe)) := jt_of (pt_chain h1.op h2.op (peS X a) (peS X b) (peS X e) hm) fun R H0 G0 H G σ δ Q k h => chain_ok h1.ok h2.ok ha hb he k (test_ok h)
end
end DL

set_option maxRecDepth 100000
set_option maxHeartbeats 4000000
namespace DL
open PySem PySem.Spec PyProof.Rows L2

/-! ### calls of built-ins -/
def dCallB (g : List D → Option D) (fs : DA) : DE := dVals fs fun ds δ => match g ds with
  | some z => .ok z δ
  | none => .st
def CallOk (K : PySem.W.Frag) (cl : Cw) (r : List V → Hp → VK → Prop) (g : List D → Option D) : Prop :=
  ∀ (H G : Hp) (xs : List V) (ds : List D) (z : D) (Q : VK), Sub G H → RepL K cl G xs ds → g ds = some z → (∀ v H' G', Grow H G H' G' → Rep K cl G' v z → Q v H') → r xs H Q
/-- the same where the answer is a new object that is nobody's -/
def CallNew (K : PySem.W.Frag) (cl : Cw) (r : List V → Hp → VK → Prop) (g : List D → Option D) : Prop :=
  ∀ (H G : Hp) (xs : List V) (ds : List D) (z : D) (Q : VK), Sub G H → RepL K cl G xs ds → g ds = some z → (∀ (p : Addr) (o : HO), H p = none → Own K cl (upd H p o) G p z → Q (.ref p) (upd H p o)) → r xs H Q
section
variable {c : Cf} {X : Cx} {e : Expr} {es : List Expr} {fs : DA} {r : List V → Hp → VK → Prop} {g : List D → Option D} {pos : Pos}
theorem je_cb (p : PE X e (tCB r (tA X es))) (h : CallOk X.K c.cl r g) (ha : JA c X es fs) : JE c X e (dCallB g fs) := by
  refine je_of p fun R H0 G0 H G σ δ Q k hp => ?_
  refine ha R H0 G0 H G σ δ _ k (EPost.imp (EPost.bind hp) fun xs H1 ⟨G1, as, δ1, s1, k1, r1, h1⟩ => ?_)
  cases q : avs as with
  | none => rw [q] at h1; exact h1.elim
  | some ds =>
    rw [q] at h1
    cases q2 : g ds with
    | none => simp only [q2] at h1; exact h1.elim
    | some z =>
      simp only [q2] at h1
      exact h H1 G1 xs ds z Q k1.sub (r1.vals q) q2 fun v H' G' gr rv => h1 v H' G' gr.gk (k1.grow gr) rv
theorem jf_cb (p : PE X e (tCB r (tA X es))) (h : CallNew X.K c.cl r g) (ha : JA c X es fs) : JF c X e (dCallB g fs) := fun R H0 G0 H G σ δ Q k hp pins s I => by
  refine p.run pins s σ H Q I ?_
  refine ha R H0 G0 H G σ δ _ k (EPost.imp (FPost.bind (rel := fun _ _ _ => True) hp) fun xs H1 ⟨G1, as, δ1, s1, k1, r1, h1⟩ => ?_)
  cases q : avs as with
  | none => rw [q] at h1; exact h1.elim
  | some ds =>
    rw [q] at h1
    cases q2 : g ds with
    | none => simp only [q2] at h1; exact h1.elim
    | some z =>
      simp only [q2] at h1
      refine h H1 G1 xs ds z Q k1.sub (r1.vals q) q2 fun p o np w => ?_
      have gr := Grow.fresh k1.sub np o
      exact h1 p _ _ gr.gk (k1.grow gr) (k1.freshG np) (k1.freshH0 np) w fun j t e o' => k1.freshSl np e o'
end
section
variable {K : PySem.W.Frag} {cl : Cw} {H G : Hp}
theorem RepL.one' {vs : List V} {d : D} (r : RepL K cl G vs [d]) : ∃ v, vs = [v] ∧ Rep K cl G v d := by
  cases r with
  | cons h t => cases t; exact ⟨_, rfl, h⟩
theorem RepL.two' {vs : List V} {d e : D} (r : RepL K cl G vs [d, e]) : ∃ v u, vs = [v, u] ∧ Rep K cl G v d ∧ Rep K cl G u e := by
  cases r with
  | cons h t => obtain ⟨u, z, q⟩ := t.one'; exact ⟨_, u, by rw [z], h, q⟩
/-- len -/
def lenD : D → Option Nat
  | .str y => if y.length ≤ sizeLine then some y.length else none
  | .lst ds => some ds.length
  | .tup ds => some ds.length
  | .scr ns => some ns.length
  | _ => none
def gLen : List D → Option D
  | [d] => (lenD d).map fun n => .int (n : Nat)
  | _ => none
def rLenA (K : PySem.W.Frag) : List V → Hp → VK → Prop := fun xs H Q => ∃ x n, xs = [x] ∧ LenV K x H n ∧ Q (.int n) H
theorem lenV_ok (s : Sub G H) {v : V} {d : D} {n : Nat} (r : Rep K cl G v d) (e : lenD d = some n) : LenV K v H n := by
  cases r with
  | str y =>
    simp only [lenD] at e
    by_cases hl : y.length ≤ sizeLine
    · rw [if_pos hl] at e; cases e; exact ⟨hl, rfl⟩
    · rw [if_neg hl] at e; cases e
  | @lst a xs ds h1 h2 => cases e; exact .inl ⟨xs, .inl (.inl (s _ _ h1)), h2.length.symm⟩
  | @tup a xs ds h1 h2 => cases e; exact .inr ⟨xs, .inl (.inl (s _ _ h1)), h2.length.symm⟩
  | @scr a ns h1 => cases e; exact .inl ⟨_, s.sqL h1, by simp⟩
  | _ => cases e
theorem co_len : CallOk K cl (rLenA K) gLen := fun H G xs ds z Q s r e q => by
  match ds, r, e with
  | [d], r, e =>
    obtain ⟨v, rfl, rv⟩ := r.one'
    simp only [gLen, Option.map_eq_some_iff] at e
    obtain ⟨n, e1, rfl⟩ := e
    exact ⟨v, n, rfl, lenV_ok s rv e1, q _ H G (.refl s) (.int _)⟩
  | [], r, e => cases e
  | _ :: _ :: _, r, e => cases e
/-- int(x) of an int, a bool -/
def gInt1 : List D → Option D
  | [.int i] => some (.int i)
  | [.bl b] => some (.int (if b then 1 else 0))
  | _ => none
theorem co_int : CallOk K cl (fun xs H Q => (∃ i, xs = [.int i] ∧ Q (.int i) H) ∨ ∃ k, xs = [.bl k] ∧ Q (.int (if k then 1 else 0)) H) gInt1 := fun H G xs ds z Q s r e q => by
  match ds, r, e with
  | [d], r, e =>
    obtain ⟨v, rfl, rv⟩ := r.one'
    cases rv with
    | int i => cases e; exact .inl ⟨i, rfl, q _ H G (.refl s) (.int _)⟩
    | bl b => cases e; exact .inr ⟨b, rfl, q _ H G (.refl s) (.int _)⟩
    | _ => cases e
  | [], r, e => cases e
  | _ :: _ :: _, r, e => simp [gInt1] at e
def gAbs : List D → Option D
  | [.int i] => some (.int (if i < 0 then -i else i))
  | _ => none
theorem co_abs : CallOk K cl (fun xs H Q => ∃ i, xs = [.int i] ∧ Q (.int (if i < 0 then -i else i)) H) gAbs := fun H G xs ds z Q s r e q => by
  match ds, r, e with
  | [d], r, e =>
    obtain ⟨v, rfl, rv⟩ := r.one'
    cases rv with
    | int i => cases e; exact ⟨i, rfl, q _ H G (.refl s) (.int _)⟩
    | _ => cases e
  | [], r, e => cases e
  | _ :: _ :: _, r, e => simp [gAbs] at e
def gStr : List D → Option D
  | [.int i] => if i.natAbs.log2 < 1920 then some (.str (toString i)) else none
  | _ => none
theorem co_str : CallOk K cl (fun xs H Q => ∃ i, xs = [.int i] ∧ i.natAbs.log2 < 1920 ∧ Q (.str (toString i)) H) gStr := fun H G xs ds z Q s r e q => by
  match ds, r, e with
  | [d], r, e =>
    obtain ⟨v, rfl, rv⟩ := r.one'
    cases rv with
    | int i =>
      simp only [gStr] at e
      by_cases hl : i.natAbs.log2 < 1920
      · rw [if_pos hl] at e; cases e; exact ⟨i, rfl, hl, q _ H G (.refl s) (.str _)⟩
      · rw [if_neg hl] at e; cases e
    | _ => cases e
  | [], r, e => cases e
  | _ :: _ :: _, r, e => simp [gStr] at e
/-- tuple(x), list(x) of a list or a tuple -/
def gTuple : List D → Option D
  | [.lst ds] => some (.tup ds)
  | [.tup ds] => some (.tup ds)
  | _ => none
theorem co_tuple : CallOk K cl (fun xs H Q => ∃ p ys, xs = [.ref p] ∧ ((SqL K H p ys ∧ ∀ l, H l = none → Q (.ref l) (upd H l (.tup ys))) ∨ (SqT K H p ys ∧ Q (.ref p) H))) gTuple := fun H G xs ds z Q s r e q => by
  match ds, r, e with
  | [d], r, e =>
    obtain ⟨v, rfl, rv⟩ := r.one'
    cases rv with
    | @lst a xs ds h1 h2 =>
      cases e
      refine ⟨a, xs, rfl, .inl ⟨.inl (.inl (s _ _ h1)), fun l nl => ?_⟩⟩
      have gr := Grow.froze s nl (.tup xs)
      exact q _ _ _ gr (.tup upd_same (h2.mono gr.gk))
    | @tup a xs ds h1 h2 =>
      cases e
      exact ⟨a, xs, rfl, .inr ⟨.inl (.inl (s _ _ h1)), q _ H G (.refl s) (.tup h1 h2)⟩⟩
    | _ => cases e
  | [], r, e => cases e
  | _ :: _ :: _, r, e => simp [gTuple] at e
def gList : List D → Option D
  | [.lst ds] => some (.lst ds)
  | [.tup ds] => some (.lst ds)
  | [.scr ns] => some (.lst (ns.map D.int))
  | _ => none
theorem cn_list : CallNew K cl (fun xs H Q => ∃ p ys, xs = [.ref p] ∧ (SqL K H p ys ∨ SqT K H p ys) ∧ ∀ l, H l = none → Q (.ref l) (upd H l (.lst ys))) gList := fun H G xs ds z Q s r e q => by
  match ds, r, e with
  | [d], r, e =>
    obtain ⟨v, rfl, rv⟩ := r.one'
    cases rv with
    | @lst a xs ds h1 h2 =>
      cases e
      exact ⟨a, xs, rfl, .inl (.inl (.inl (s _ _ h1))), fun l nl => q l (.lst xs) nl ⟨xs, upd_same, h2⟩⟩
    | @tup a xs ds h1 h2 =>
      cases e
      exact ⟨a, xs, rfl, .inr (.inl (.inl (s _ _ h1))), fun l nl => q l (.lst xs) nl ⟨xs, upd_same, h2⟩⟩
    | @scr a ns h1 =>
      cases e
      exact ⟨a, _, rfl, .inl (s.sqL h1), fun l nl => q l (.lst (ns.map V.int)) nl ⟨_, upd_same, RepL.of_ints ns⟩⟩
    | _ => cases e
  | [], r, e => cases e
  | _ :: _ :: _, r, e => simp [gList] at e
/-- all, any of a list of bools -/
def bools : List D → Option (List Bool)
  | [] => some []
  | .bl b :: r => (bools r).map (b :: ·)
  | _ :: _ => none
theorem bools_ok : ∀ {ds : List D} {bs : List Bool} {vs : List V}, bools ds = some bs → RepL K cl G vs ds → vs = bs.map V.bl
  | [], bs, vs, e, r => by cases e; cases r; rfl
  | d :: ds, bs, vs, e, r => by
    cases r with
    | cons h t =>
      cases h with
      | bl b =>
        simp only [bools, Option.map_eq_some_iff] at e
        obtain ⟨bs', e1, rfl⟩ := e
        rw [bools_ok e1 t]; rfl
      | _ => cases e
def gAll : List D → Option D
  | [.lst ds] => (bools ds).map fun bs => .bl (bs.all id)
  | _ => none
def gAny : List D → Option D
  | [.lst ds] => (bools ds).map fun bs => .bl (bs.any id)
  | _ => none
theorem co_all : CallOk K cl (rAll K) gAll := fun H G xs ds z Q s r e q => by
  match ds, r, e with
  | [d], r, e =>
    obtain ⟨v, rfl, rv⟩ := r.one'
    cases rv with
    | @lst a xs ds h1 h2 =>
      simp only [gAll, Option.map_eq_some_iff] at e
      obtain ⟨bs, e1, rfl⟩ := e
      have := bools_ok e1 h2
      subst this
      exact ⟨a, bs, rfl, .inl (.inl (s _ _ h1)), q _ H G (.refl s) (.bl _)⟩
    | _ => cases e
  | [], r, e => cases e
  | _ :: _ :: _, r, e => simp [gAll] at e
theorem co_any : CallOk K cl (rAny K) gAny := fun H G xs ds z Q s r e q => by
  match ds, r, e with
  | [d], r, e =>
    obtain ⟨v, rfl, rv⟩ := r.one'
    cases rv with
    | @lst a xs ds h1 h2 =>
      simp only [gAny, Option.map_eq_some_iff] at e
      obtain ⟨bs, e1, rfl⟩ := e
      have := bools_ok e1 h2
      subst this
      exact ⟨a, bs, rfl, .inl (.inl (s _ _ h1)), q _ H G (.refl s) (.bl _)⟩
    | _ => cases e
  | [], r, e => cases e
  | _ :: _ :: _, r, e => simp [gAny] at e
end
section
variable {c : Cf} {X : Cx} {e : Expr} {es : List Expr} {fe fb : DE} {fs : DA} {p pos : Pos}
theorem je_len (hg : Gl X "len") (hm : X.mg "len" = none) (ha : JA c X (e :: es) fs) (he : starEach (e :: es) X.env = (false, eval e X.env) :: starEach es X.env := by rfl) (hpl : (backTo pos (starEach es X.env)).any (·.1) = false := by rfl) :
    JE c X (.Call (.Name "len" p) (e :: es) [] pos) (dCallB gLen fs) := je_cb (pe_callB call_len hg hm PySem.boot_len (paS X (e :: es)) (by decide) (by decide) he hpl) co_len ha
theorem je_callint (hg : Gl X "int") (hm : X.mg "int" = none) (ha : JA c X (e :: es) fs) (he : starEach (e :: es) X.env = (false, eval e X.env) :: starEach es X.env := by rfl) (hpl : (backTo pos (starEach es X.env)).any (·.1) = false := by rfl) :
    JE c X (.Call (.Name "int" p) (e :: es) [] pos) (dCallB gInt1 fs) := je_cb (pe_callTy call_int1 hg hm (by decide +kernel) (paS X (e :: es)) (by decide) (by decide) he hpl) co_int ha
theorem je_abs (hg : Gl X "abs") (hm : X.mg "abs" = none) (ha : JA c X (e :: es) fs) (he : starEach (e :: es) X.env = (false, eval e X.env) :: starEach es X.env := by rfl) (hpl : (backTo pos (starEach es X.env)).any (·.1) = false := by rfl) :
    JE c X (.Call (.Name "abs" p) (e :: es) [] pos) (dCallB gAbs fs) := je_cb (pe_callB call_abs hg hm (by decide +kernel) (paS X (e :: es)) (by decide) (by decide) he hpl) co_abs ha
theorem je_callstr (hg : Gl X "str") (hm : X.mg "str" = none) (ha : JA c X (e :: es) fs) (he : starEach (e :: es) X.env = (false, eval e X.env) :: starEach es X.env := by rfl) (hpl : (backTo pos (starEach es X.env)).any (·.1) = false := by rfl) :
    JE c X (.Call (.Name "str" p) (e :: es) [] pos) (dCallB gStr fs) := je_cb (pe_callTy call_str_int hg hm (by decide +kernel) (paS X (e :: es)) (by decide) (by decide) he hpl) co_str ha
theorem je_calltuple (hg : Gl X "tuple") (hm : X.mg "tuple" = none) (ha : JA c X (e :: es) fs) (he : starEach (e :: es) X.env = (false, eval e X.env) :: starEach es X.env := by rfl) (hpl : (backTo pos (starEach es X.env)).any (·.1) = false := by rfl) :
    JE c X (.Call (.Name "tuple" p) (e :: es) [] pos) (dCallB gTuple fs) := je_cb (pe_callTy call_tuple_of hg hm (by decide +kernel) (paS X (e :: es)) (by decide) (by decide) he hpl) co_tuple ha
theorem jf_calllist (hg : Gl X "list") (hm : X.mg "list" = none) (ha : JA c X (e :: es) fs) (he : starEach (e :: es) X.env = (false, eval e X.env) :: starEach es X.env := by rfl) (hpl : (backTo pos (starEach es X.env)).any (·.1) = false := by rfl) :
    JF c X (.Call (.Name "list" p) (e :: es) [] pos) (dCallB gList fs) := jf_cb (pe_callTy call_list_of hg hm (by decide +kernel) (paS X (e :: es)) (by decide) (by decide) he hpl) cn_list ha
theorem je_all (hc : X.calm = true) (hg : Gl X "all") (hm : X.mg "all" = none) (ha : JA c X (e :: es) fs) (he : starEach (e :: es) X.env = (false, eval e X.env) :: starEach es X.env := by rfl) (hpl : (backTo pos (starEach es X.env)).any (·.1) = false := by rfl) :
    JE c X (.Call (.Name "all" p) (e :: es) [] pos) (dCallB gAll fs) := je_cb (pe_callB (cr_all hc) hg hm (by decide +kernel) (paS X (e :: es)) (by decide) (by decide) he hpl) co_all ha

/-! ### subscripts -/
def idxD : D → D → Option D
  | .lst ds, .int i => atI ds i
  | .tup ds, .int i => atI ds i
  | .str z, .int i => if z.length ≤ sizeLine then (atI z.cps.toList i).map fun c => .str ⟨#[c]⟩ else none
  | _, _ => none
theorem RepL.atI {K : PySem.W.Frag} {cl : Cw} {G : Hp} {vs : List V} {ds : List D} (r : RepL K cl G vs ds) {i : Int} {d : D} (e : L2.atI ds i = some d) : ∃ v, L2.atI vs i = some v ∧ Rep K cl G v d := by
  unfold L2.atI at e ⊢
  rw [r.length]
  cases q : ixN ds.length i with
  | none => rw [q] at e; cases e
  | some j =>
    rw [q] at e
    exact r.get (i := j) e
theorem bin_ixH {K : PySem.W.Frag} {cl : Cw} {H G : Hp} {x y : V} {d e z : D} {Q : VK} (s : Sub G H) (r1 : Rep K cl G x d) (r2 : Rep K cl G y e) (g : idxD d e = some z) (q : ∀ u, Rep K cl G u z → Q u H) : rIx K x y H Q := by
  cases r1 with
  | @lst a xs ds h1 h2 =>
    cases r2 with
    | int i =>
      obtain ⟨v, e1, e2⟩ := h2.atI g
      exact .inl ⟨a, xs, i, v, rfl, rfl, .inl (.inl (s _ _ h1)), e1, q v e2⟩
    | _ => cases g
  | @tup a xs ds h1 h2 =>
    cases r2 with
    | int i =>
      obtain ⟨v, e1, e2⟩ := h2.atI g
      exact .inr (.inl ⟨a, xs, i, v, rfl, rfl, .inl (.inl (s _ _ h1)), e1, q v e2⟩)
    | _ => cases g
  | str zz =>
    cases r2 with
    | int i =>
      simp only [idxD] at g
      by_cases hl : zz.length ≤ sizeLine
      · rw [if_pos hl, Option.map_eq_some_iff] at g
        obtain ⟨cc, e1, rfl⟩ := g
        exact .inr (.inr ⟨zz, i, cc, rfl, rfl, hl, e1, q _ (.str _)⟩)
      · rw [if_neg hl] at g; cases g
    | _ => cases g
  | _ => cases g
theorem bin_ix {K : PySem.W.Frag} {cl : Cw} : BinOk K cl (rIx K) idxD := fun H G x y d e z Q s r1 r2 g q => bin_ixH s r1 r2 g fun u ru => q u H G (.refl s) ru
theorem je_ix {a b : Expr} {fa : DE} (ha : JE c X a fa) (hb : JE c X b fb) (hs : PlainIx b := by exact fun _ _ => rfl) : JE c X (.Subscript a b pos) (dBin idxD fa fb) :=
  je_of (pe_ix ix_seq (peS X a) (peS X b) hs) fun R H0 G0 H G σ δ Q k h => bin_ok bin_ix ha hb k h
/-- x[i] of a variable that is owned (or not) -/
def look (δ : DEnv) (i : Nat) : Option D := match δ[i]? with
  | some (.val d) => some d
  | some s => s.cont
  | none => none
def dIxV (j : Nat) (fb : DE) : DE := fun δ => match look δ j with
  | some _ => (fb δ).bind fun y δ1 => match (look δ1 j).bind fun d => idxD d y with
    | some z => .ok z δ1
    | none => .st
  | none => .st
theorem look_ok {K : PySem.W.Frag} {cl : Cw} {hx : Addr × Option Addr} {R : List (Nat × Addr)} {H0 G0 H G : Hp} {σ : L2.St} {δ : DEnv} (k : Ok K cl hx R H0 G0 H G σ δ) {j : Nat} {d : D} (e : look δ j = some d) :
    ∃ v, σ[j]? = some (some v) ∧ (Rep K cl G v d ∨ ∃ a, v = .ref a ∧ Own K cl H G a d) := by
  unfold look at e
  cases q : δ[j]? with
  | none => rw [q] at e; cases e
  | some s =>
    rw [q] at e
    obtain ⟨x, ex, w⟩ := k.at q
    cases s with
    | val d' => cases e; obtain ⟨v, rfl, r⟩ := w; exact ⟨v, ex, .inl r⟩
    | own d' => cases e; obtain ⟨a, rfl, _, _, r⟩ := w; exact ⟨.ref a, ex, .inr ⟨a, rfl, r⟩⟩
    | rf d' => cases e; obtain ⟨a, rfl, _, r⟩ := w; exact ⟨.ref a, ex, .inr ⟨a, rfl, r⟩⟩
    | un => cases e
    | exc c ns ds => cases e
theorem seen_ix {K : PySem.W.Frag} {cl : Cw} {H G : Hp} (s : Sub G H) {v y : V} {d e z : D} {Q : VK} (w : Rep K cl G v d ∨ ∃ a, v = .ref a ∧ Own K cl H G a d) (r2 : Rep K cl G y e) (g : idxD d e = some z) (q : ∀ u, Rep K cl G u z → Q u H) : rIx K v y H Q := by
  rcases w with w | ⟨a, rfl, w⟩
  · exact bin_ixH s w r2 g q
  · cases d with
    | lst ds =>
      obtain ⟨xs, h1, h2⟩ := w
      cases r2 with
      | int i =>
        obtain ⟨u, e1, e2⟩ := h2.atI (show L2.atI ds i = some z from g)
        exact .inl ⟨a, xs, i, u, rfl, rfl, .inl (.inl h1), e1, q u e2⟩
      | _ => simp [idxD] at g
    | dct ks ds => simp [idxD] at g
    | ins cc ns ds => simp [idxD] at g
    | _ => exact w.elim
/-- the reading of a subscript of a variable -/
theorem je_ixV {a b : Expr} {j : Nat} {fb : DE} (pa : PE X a (tVar j)) (hb : JE c X b fb) (hs : PlainIx b := by exact fun _ _ => rfl) : JE c X (.Subscript a b pos) (dIxV j fb) := by
  refine je_of (pe_ix ix_seq pa (peS X b) hs) fun R H0 G0 H G σ δ Q k h => ?_
  unfold dIxV at h
  cases q0 : look δ j with
  | none => rw [q0] at h; exact h.elim
  | some d0 =>
    rw [q0] at h
    obtain ⟨v, ev, _⟩ := look_ok k q0
    refine ⟨v, ev, ?_⟩
    refine hb R H0 G0 H G σ δ _ k (EPost.imp (EPost.bind h) fun y H1 ⟨G1, e, δ1, s1, k1, r1, h1⟩ => ?_)
    cases q1 : look δ1 j with
    | none => simp only [q1] at h1; exact h1.elim
    | some d =>
      simp only [q1, Option.bind_some] at h1
      obtain ⟨v', ev', w⟩ := look_ok k1 q1
      rw [ev] at ev'
      cases ev'
      cases q2 : idxD d e with
      | none => simp only [q2] at h1; exact h1.elim
      | some z =>
        simp only [q2] at h1
        exact seen_ix k1.sub w r1 q2 fun u ru => h1 u H1 G1 (.refl G1) k1 ru
/-- len(x) of a variable that is owned (or not) -/
def dLenV (j : Nat) : DE := fun δ => match (look δ j).bind lenD with
  | some n => .ok (.int (n : Nat)) δ
  | none => .st
theorem seen_len {K : PySem.W.Frag} {cl : Cw} {H G : Hp} (s : Sub G H) {v : V} {d : D} {n : Nat} (w : Rep K cl G v d ∨ ∃ a, v = .ref a ∧ Own K cl H G a d) (e : lenD d = some n) : LenV K v H n := by
  rcases w with w | ⟨a, rfl, w⟩
  · exact lenV_ok s w e
  · cases d with
    | lst ds => obtain ⟨xs, h1, h2⟩ := w; cases e; exact .inl ⟨xs, .inl (.inl h1), h2.length.symm⟩
    | dct ks ds => cases e
    | ins cc ns ds => cases e
    | _ => exact w.elim
theorem je_lenV {a : Expr} {j : Nat} (hg : Gl X "len") (hm : X.mg "len" = none) (pa : PE X a (tVar j)) (he : starEach [a] X.env = (false, eval a X.env) :: starEach [] X.env := by rfl) (hpl : (backTo pos (starEach [] X.env)).any (·.1) = false := by rfl) :
    JE c X (.Call (.Name "len" p) [a] [] pos) (dLenV j) := by
  refine je_of (pe_callB call_len hg hm PySem.boot_len (pa_cons pa pa_nil he) (by decide) (by decide) he hpl) fun R H0 G0 H G σ δ Q k h => ?_
  unfold dLenV at h
  cases q0 : look δ j with
  | none => rw [q0] at h; exact h.elim
  | some d =>
    rw [q0] at h
    simp only [Option.bind_some] at h
    obtain ⟨v, ev, w⟩ := look_ok k q0
    cases q1 : lenD d with
    | none => simp only [q1] at h; exact h.elim
    | some n =>
      simp only [q1] at h
      exact ⟨v, ev, v, n, rfl, seen_len k.sub w q1, h _ H G (.refl G) k (.int _)⟩
/-- the truth of such a variable -/
def dTruV (j : Nat) : DT := fun δ => match (look δ j).bind dTruth with
  | some b => .ok b δ
  | none => .st
theorem seen_tru {K : PySem.W.Frag} {cl : Cw} {H G : Hp} (s : Sub G H) {v : V} {d : D} {b : Bool} (w : Rep K cl G v d ∨ ∃ a, v = .ref a ∧ Own K cl H G a d) (e : dTruth d = some b) : TruV K v H b := by
  rcases w with w | ⟨a, rfl, w⟩
  · exact truth_ok s w e
  · cases d with
    | lst ds => obtain ⟨xs, h1, h2⟩ := w; cases e; exact .inl ⟨xs, .inl (.inl h1), by rw [h2.isEmpty]⟩
    | dct ks ds =>
      obtain ⟨xs, h1, hl, h2⟩ := w
      cases e
      refine .inr (.inr ⟨_, h1, ?_⟩)
      cases ks with
      | nil => rfl
      | cons k r =>
        cases xs with
        | nil => cases hl
        | cons x t => rfl
    | ins cc ns ds => cases e
    | _ => exact w.elim
theorem jt_truV {a : Expr} {j : Nat} (pa : PE X a (tVar j)) (he : ∀ whole, isTrue a X.env whole = (do let v ← whole; standAt a.pos; holding [v] (truthy v))) : JT c X a (dTruV j) := by
  refine jt_of (pt_truth pa he) fun R H0 G0 H G σ δ Q k h => ?_
  unfold dTruV at h
  cases q0 : look δ j with
  | none => rw [q0] at h; exact h.elim
  | some d =>
    rw [q0] at h
    simp only [Option.bind_some] at h
    obtain ⟨v, ev, w⟩ := look_ok k q0
    cases q1 : dTruth d with
    | none => simp only [q1] at h; exact h.elim
    | some n =>
      simp only [q1] at h
      exact ⟨v, ev, n, seen_tru k.sub w q1, h _ H G (.refl G) k rfl⟩

/-! ### slices -/
def dOpt (fo : Option DE) (δ : DEnv) : EO (Option Int) := match fo with
  | none => .ok none δ
  | some f => (f δ).bind fun x δ1 => match x with
    | .int i => .ok (some i) δ1
    | _ => .st
def cutL {α : Type} (xs : List α) (lo hi : Option Int) : List α := (xs.drop (HT.sIx xs.length 0 lo)).take (HT.sIx xs.length xs.length hi - HT.sIx xs.length 0 lo)
def slD (lo hi : Option Int) : D → Option D
  | .lst ds => some (.lst (cutL ds lo hi))
  | .tup ds => some (.tup (cutL ds lo hi))
  | .str z => if z.length ≤ sizeLine then some (.str (cutS z lo hi)) else none
  | _ => none
def dSl (fe : DE) (fl fh : Option DE) : DE := fun δ => (fe δ).bind fun d δ1 => (dOpt fl δ1).bind fun l δ2 => (dOpt fh δ2).bind fun h δ3 => match slD l h d with
  | some z => .ok z δ3
  | none => .st
def tO (X : Cx) (e : Option Expr) : TO := match e with
  | none => tNoPart
  | some e => tPart (tE X e)
theorem poS (X : Cx) : ∀ (e : Option Expr), PO X e (tO X e)
  | none => po_none
  | some e => po_some (peS X e)
/-- an optional part -/
inductive JO (c : Cf) (X : Cx) : Option Expr → Option DE → Prop
  | none : JO c X none none
  | some {e : Expr} {f : DE} : JE c X e f → JO c X (some e) (some f)
theorem JO.run {o : Option Expr} {fo : Option DE} (h : JO c X o fo) {R : List (Nat × Addr)} {H0 G0 H G : Hp} {σ : L2.St} {δ : DEnv} {Q : Option Int → Hp → Prop} (k : (c.fx X R H0 G0).Ok H G σ δ)
    (hp : EPost (c.fx X R H0 G0) c.W σ (fun _ (a b : Option Int) => a = b) G (dOpt fo δ) Q) : tO X o σ H Q := by
  cases h with
  | none => exact hp Option.none H G (.refl G) k rfl
  | some he =>
    refine he R H0 G0 H G σ δ _ k (EPost.imp (EPost.bind (rel := relD X.K c.cl) hp) fun x H1 ⟨G1, d, δ1, s1, k1, r1, h1⟩ => ?_)
    cases r1 with
    | int i => exact ⟨i, rfl, h1 (Option.some i) H1 G1 (.refl G1) k1 rfl⟩
    | _ => exact h1.elim
def rSlAll (K : PySem.W.Frag) : V → Option Int → Option Int → Hp → VK → Prop := fun x lo hi H Q => rSlL K x lo hi H Q ∨ (rSlA K x lo hi H Q ∨ rSlS x lo hi H Q)
theorem sl_all : SlR X (rSlAll X.K) := sl_list.or (sl_tupA.or sl_str)
theorem je_slice {e : Expr} {lo hi : Option Expr} {fe : DE} {fl fh : Option DE} {p2 : Pos} (he : JE c X e fe) (hl : JO c X lo fl) (hh : JO c X hi fh) : JE c X (.Subscript e (.Slice lo hi none p2) pos) (dSl fe fl fh) := by
  refine je_of (pe_slice sl_all (peS X e) (poS X lo) (poS X hi)) fun R H0 G0 H G σ δ Q k h => ?_
  refine he R H0 G0 H G σ δ _ k (EPost.imp (EPost.bind h) fun x H1 ⟨G1, d, δ1, s1, k1, r1, h1⟩ => ?_)
  refine hl.run k1 (EPost.imp (EPost.bind (rel := fun _ (a b : Option Int) => a = b) h1) fun l H2 ⟨G2, l', δ2, s2, k2, r2, h2⟩ => ?_)
  have r2 : l = l' := r2
  subst r2
  refine hh.run k2 (EPost.imp (EPost.bind (rel := fun _ (a b : Option Int) => a = b) h2) fun u H3 ⟨G3, u', δ3, s3, k3, r3, h3⟩ => ?_)
  have r3 : u = u' := r3
  subst r3
  have r1 : Rep X.K c.cl G3 x d := Rep.mono (s2.trans s3) r1
  have cut : ∀ {xs : List V} {ds : List D} {G : Hp}, RepL X.K c.cl G xs ds → RepL X.K c.cl G (cutV xs l u) (cutL ds l u) := fun {xs ds G} r => by
    unfold cutV cutL
    rw [r.length]
    exact (r.drop _).take _
  cases r1 with
  | @lst a xs ds q1 q2 =>
    refine Or.inl ⟨a, xs, rfl, .inl (.inl (k3.sub _ _ q1)), fun p np => ?_⟩
    have gr := Grow.froze k3.sub np (.lst (cutV xs l u))
    exact h3 _ _ _ gr.gk (k3.grow gr) (.lst upd_same ((cut q2).mono gr.gk))
  | @tup a xs ds q1 q2 =>
    refine Or.inr (Or.inl ⟨a, xs, rfl, .inl (.inl (k3.sub _ _ q1)), fun hw => ?_, fun hw p np => ?_⟩)
    · have e : cutL ds l u = ds := by
        unfold cutL
        rw [q2.length] at hw
        rw [hw.1, hw.2, List.drop_zero, Nat.sub_zero]
        exact List.take_length
      refine h3 _ H3 G3 (.refl G3) k3 ?_
      show Rep X.K c.cl G3 (.ref a) (.tup (cutL ds l u))
      rw [e]
      exact .tup q1 q2
    · have gr := Grow.froze k3.sub np (.tup (cutV xs l u))
      exact h3 _ _ _ gr.gk (k3.grow gr) (.tup upd_same ((cut q2).mono gr.gk))
  | str z =>
    by_cases hz : z.length ≤ sizeLine
    · simp only [slD, if_pos hz] at h3
      exact Or.inr (Or.inr ⟨z, rfl, hz, h3 _ H3 G3 (.refl G3) k3 (.str _)⟩)
    · simp only [slD, if_neg hz] at h3; exact h3.elim
  | _ => exact h3.elim

/-! ### stores into owned objects -/
/-- a variable's new content -/
def putV (j : Nat) (d : D) (δ : DEnv) : Option DEnv := match δ[j]? with
  | some s => if isO s = true then some (δ.set j (s.put d)) else none
  | none => none
theorem ownd_put {K : PySem.W.Frag} {cl : Cw} {hx : Addr × Option Addr} {R : List (Nat × Addr)} {H0 G0 H G : Hp} {σ : L2.St} {δ δ' : DEnv} (k : Ok K cl hx R H0 G0 H G σ δ) {j : Nat} {d : D} (e : putV j d δ = some δ') :
    ∃ a, σ[j]? = some (some (.ref a)) ∧ ∀ o, Own K cl (upd H a o) G a d → Ok K cl hx R H0 G0 (upd H a o) G σ δ' := by
  unfold putV at e
  cases q : δ[j]? with
  | none => rw [q] at e; cases e
  | some s =>
    rw [q] at e
    dsimp only at e
    cases hO : isO s with
    | false => rw [hO] at e; simp at e
    | true =>
      rw [hO] at e
      simp only [if_true] at e
      cases e
      obtain ⟨x, ex, w⟩ := k.at q
      obtain ⟨a, d0, rfl, ga, ow, _⟩ := w.ex hO
      obtain ⟨u, hu⟩ := ow.ex
      have hj : j < δ.length := (List.getElem?_eq_some_iff.mp q).1
      refine ⟨a, ex, fun o w' => ?_⟩
      have fr : Frm [a] H G (upd H a o) G := ⟨.refl G, fun b v z => by rw [upd_ne (ne_of_none z ga)]; exact k.sub b v z, fun b v z hb => by rw [upd_ne (fun z' => hb (by rw [z']; exact List.mem_cons_self))]; exact z, fun b v z => .inl z⟩
      refine k.frame fr (by rw [List.length_set]) (fun i t e1 o1 => ?_) (fun i t b e1 o1 e2 => ?_) fun b hb => ?_
      · have : i ≠ j := fun z => by rw [z, q] at e1; cases e1; rw [hO] at o1; cases o1
        rw [List.getElem?_set_ne (Ne.symm this)]; exact e1
      · by_cases hi : i = j
        · subst hi
          rw [q] at e1; cases e1
          rw [ex] at e2; cases e2
          exact ⟨d, by rw [List.getElem?_set_self hj], ga, w'⟩
        · obtain ⟨a', d', z, ga', ow', sd⟩ := (k.sl i t _ e1 e2).ex o1
          cases z
          have ne : b ≠ a := fun z => hi (k.sep i j t s a e1 q o1 hO (by rw [e2, z]) ex)
          refine ⟨d', by rw [List.getElem?_set_ne (Ne.symm hi), e1]; rcases sd with rfl | rfl <;> rfl, ga', ow'.mono (.refl G) fun v z => by rw [upd_ne ne]; exact z⟩
      · have : b = a := by simpa using hb
        subst this
        exact ⟨j, s, q, hO, ex⟩
/-- x[i] = e -/
def sPut (j : Nat) (fe fi : DE) : DS := fun δ => (fe δ).to fun v δ1 => match look δ1 j with
  | some _ => (fi δ1).to fun i δ2 => match look δ2 j, i with
    | some (.lst ds), .int n => (match ixN ds.length n with
      | some m => oNx (putV j (.lst (ds.set m v)) δ2)
      | none => .st)
    | _, _ => .st
  | none => .st
theorem look_own {K : PySem.W.Frag} {cl : Cw} {hx : Addr × Option Addr} {R : List (Nat × Addr)} {H0 G0 H G : Hp} {σ : L2.St} {δ : DEnv} (k : Ok K cl hx R H0 G0 H G σ δ) {j : Nat} {d e : D} {δ' : DEnv} (e1 : look δ j = some d) (e2 : putV j e δ = some δ') {a : Addr} (ea : σ[j]? = some (some (.ref a))) : Own K cl H G a d := by
  unfold putV at e2
  unfold look at e1
  cases q : δ[j]? with
  | none => rw [q] at e2; cases e2
  | some s =>
    rw [q] at e1 e2
    obtain ⟨x, ex, w⟩ := k.at q
    rw [ea] at ex
    cases ex
    cases s with
    | own d' => cases e1; obtain ⟨a', z, _, _, r⟩ := w; cases z; exact r
    | rf d' => cases e1; obtain ⟨a', z, _, r⟩ := w; cases z; exact r
    | un => cases e1
    | val d' => simp [isO] at e2
    | exc c ns ds => cases e1
theorem js_put {o i e : Expr} {j : Nat} {fe fi : DE} {tp : Pos} (po : PE X o (tVar j)) (hi : JE c X i fi) (he : JE c X e fe)
    (ha : ∀ v, assign (.Subscript o i tp) X.env v = (do
      let ov ← holding [v] (eval o X.env)
      let iv ← holding [v, ov] (eval i X.env)
      standAt tp
      holding [v, ov, iv] (setItem ov iv v)
      release [v, ov, iv] []) := by intro _; rfl)
    (hs : swapsWithSole [.Subscript o i tp] e pos.line X.env = pure false := by rfl) (hw : swappedStores [.Subscript o i tp] e X.env = pure none := by rfl)
    (h1 : (assignEach [.Subscript o i tp] X.env).map (·.2) = [assign (.Subscript o i tp) X.env] := by rfl) : JS c X (.Assign [.Subscript o i tp] e pos) (sPut j fe fi) := by
  refine js_of (ps_asg (peS X e) (pg_sub po (peS X i) set_list ha) hs hw h1) fun R H0 G0 H G σ δ D' k h => ?_
  refine he R H0 G0 H G σ δ _ k (EPost.imp (SPost.ofE h) fun v H1 ⟨G1, d, δ1, s1, k1, r1, h1⟩ => ?_)
  cases q0 : look δ1 j with
  | none => rw [q0] at h1; exact h1.elim
  | some d0 =>
    rw [q0] at h1
    obtain ⟨u, eu, _⟩ := look_ok k1 q0
    refine ⟨u, eu, ?_⟩
    refine hi R H0 G0 H1 G1 σ δ1 _ k1 (EPost.imp (SPost.ofE h1) fun y H2 ⟨G2, e2, δ2, s2, k2, r2, h2⟩ => ?_)
    cases q1 : look δ2 j with
    | none => simp only [q1] at h2; exact h2.elim
    | some d1 =>
      cases r2 with
      | int n =>
        cases d1 with
        | lst ds =>
          simp only [q1] at h2
          cases q2 : ixN ds.length n with
          | none => simp only [q2] at h2; exact h2.elim
          | some m =>
            simp only [q2] at h2
            cases q3 : putV j (.lst (ds.set m d)) δ2 with
            | none => simp only [q3] at h2; exact h2.elim
            | some δ3 =>
              simp only [q3] at h2
              obtain ⟨a, ea, kk⟩ := ownd_put k2 q3
              rw [eu] at ea
              cases ea
              obtain ⟨xs, x1, x2⟩ := look_own k2 q1 q3 eu
              refine ⟨a, xs, n, m, rfl, rfl, x1, by rw [x2.length]; exact q2, ?_⟩
              exact h2 σ _ G2 (.refl G2) (kk _ ⟨_, upd_same, x2.set m (Rep.mono s2 r1)⟩)
        | _ => simp only [q1] at h2; exact h2.elim
      | _ => cases d1 <;> (simp only [q1] at h2; exact h2.elim)
/-- x.append(e) as a statement -/
def sApp (j : Nat) (fe : DE) : DS := fun δ => match look δ j with
  | some (.lst _) => (fe δ).to fun v δ1 => (match look δ1 j with
    | some (.lst ds) => if ds.length < sizeLine then oNx (putV j (.lst (ds ++ [v])) δ1) else .st
    | _ => .st)
  | _ => .st
theorem js_app {o e : Expr} {j : Nat} {fe : DE} {ap cp : Pos} (po : PE X o (tVar j)) (he : JE c X e fe)
    (hbase : attributeBase o "append" X.env (eval o X.env) = eval o X.env := by rfl)
    (hfew : ((backTo cp (starEach (e :: []) X.env)).all (fun x => !x.1) && (backToKw cp (keywordEach [] X.env)).all (fun x => x.1.isSome)
      && decide ((e :: ([] : List Expr)).length + ([] : List Keyword).length + (if ([] : List Keyword).isEmpty then 0 else 1) < 30)) = true := by rfl)
    (hline : (ap.endLine == cp.line) = true := by rfl) (hs : starEach (e :: []) X.env = (false, eval e X.env) :: starEach [] X.env := by rfl) (hplain : (backTo cp (starEach [] X.env)).any (·.1) = false := by rfl)
    (hsw : swapsWith (.Call (.Attribute o "append" ap) [e] [] cp) none pos.line X.env = pure false := by rfl) : JS c X (.Expr (.Call (.Attribute o "append" ap) [e] [] cp) pos) (sApp j fe) := by
  refine js_of (ps_expr (pe_bm PySem.F.plainAttrs_list PySem.F.slot_list_append PySem.F.type_list_append mt_append po (pa_cons (peS X e) pa_nil hs) hbase hfew hline hs hplain) hsw) fun R H0 G0 H G σ δ D' k h => ?_
  unfold sApp at h
  cases q0 : look δ j with
  | none => rw [q0] at h; exact h.elim
  | some d0 =>
    cases d0 with
    | lst ds0 =>
      rw [q0] at h
      dsimp only at h
      obtain ⟨u, eu, w0⟩ := look_ok k q0
      refine ⟨u, eu, ?_, ?_⟩
      · rcases w0 with w0 | ⟨a, rfl, xs, w1, w2⟩
        · cases w0 with
          | @lst a xs _ w1 w2 => exact .inl ⟨rfl, xs, .inl (.inl (k.sub _ _ w1))⟩
        · exact .inl ⟨rfl, xs, .inl (.inl w1)⟩
      refine he R H0 G0 H G σ δ _ k (EPost.imp (SPost.ofE h) fun v H1 ⟨G1, d, δ1, s1, k1, r1, h1⟩ => ?_)
      cases q1 : look δ1 j with
      | none => simp only [q1] at h1; exact h1.elim
      | some d1 =>
        cases d1 with
        | lst ds =>
          simp only [q1] at h1
          by_cases hl : ds.length < sizeLine
          · rw [if_pos hl] at h1
            cases q3 : putV j (.lst (ds ++ [d])) δ1 with
            | none => simp only [q3] at h1; exact h1.elim
            | some δ3 =>
              simp only [q3] at h1
              obtain ⟨a, ea, kk⟩ := ownd_put k1 q3
              rw [eu] at ea
              cases ea
              obtain ⟨xs, x1, x2⟩ := look_own k1 q1 q3 eu
              refine ⟨a, xs, v, rfl, rfl, x1, by rw [x2.length]; exact hl, ?_⟩
              exact h1 σ _ G1 (.refl G1) (kk _ ⟨_, upd_same, x2.append (.cons r1 .nil)⟩)
          · rw [if_neg hl] at h1; exact h1.elim
        | _ => simp only [q1] at h1; exact h1.elim
    | _ => rw [q0] at h; exact h.elim
/-- x op= e -/
def sAug (i : Nat) (g : D → D → Option D) (fe : DE) : DS := fun δ => match δ[i]? with
  | some (.val x) => (fe δ).to fun y δ1 => (match g x y with
    | some z => oNx (setV i z δ1)
    | none => .st)
  | _ => .st
theorem js_aug {i : Nat} {x : Str} {e : Expr} {fe : DE} {op : Operator} {r : R2} {g : D → D → Option D} {pos' : Pos} (hN : X.N.Nodup) (hi : X.N[i]? = some x) (hx : Loc X.env.scope x) (he : JE c X e fe) (ho : OpR X (inplaceOp op) r) (hg : BinOk X.K c.cl r g)
    (hf : X.fn x = true ∨ X.env.scope.names.lookup x = some .local := by first | exact .inl rfl | exact .inr rfl | assumption) : JS c X (.AugAssign (.Name x pos') op e pos) (sAug i g fe) := by
  refine js_of (ps_aug hN hi hx (peS X e) (ti := r) (fun pins s σ H x y v u Q I r1 r2 h => ho pins s σ H x y v u Q I r1 r2 h) hf) fun R H0 G0 H G σ δ D' k h => ?_
  unfold sAug at h
  cases q0 : δ[i]? with
  | none => rw [q0] at h; exact h.elim
  | some s0 =>
    rw [q0] at h
    cases s0 with
    | val d =>
      obtain ⟨x, ex, v, rfl, rv⟩ := k.at q0
      refine ⟨v, ex, ?_⟩
      refine he R H0 G0 H G σ δ _ k (EPost.imp (SPost.ofE h) fun y H1 ⟨G1, e1, δ1, s1, k1, r1, h1⟩ => ?_)
      cases q1 : g d e1 with
      | none => simp only [q1] at h1; exact h1.elim
      | some z =>
        simp only [q1] at h1
        cases q2 : setV i z δ1 with
        | none => simp only [q2] at h1; exact h1.elim
        | some δ2 =>
          simp only [q2] at h1
          exact hg H1 G1 v y d e1 z _ k1.sub (Rep.mono s1 rv) r1 q1 fun w H' G' gr rw' => h1 _ H' G' gr.gk ((k1.grow gr).setV q2 rw')
    | _ => exact h.elim
end
end DL

set_option maxRecDepth 100000
set_option maxHeartbeats 4000000
namespace DL
open PySem PySem.Spec PyProof.Rows L2

/-! ### isinstance of built-in types -/
def tyD : D → Option String
  | .non => some "NoneType"
  | .bl _ => some "bool"
  | .int _ => some "int"
  | .str _ => some "str"
  | .lst _ => some "list"
  | .tup _ => some "tuple"
  | .dct _ _ => some "dict"
  | _ => none
def subT (t T : String) : Bool := t == T || (t == "bool" && T == "int")
def tyNames : List String := ["NoneType", "bool", "int", "str", "list", "tuple", "dict"]
def tyAsked : List String := ["bool", "int", "str", "list", "tuple", "dict"]
theorem kit_all : (tyNames.all fun t => tyAsked.all fun T => decide (kitB t T = some (subT t T))) = true := by decide +kernel
theorem kit_one {K : PySem.W.Frag} {t T : String} (ht : t ∈ tyNames) (hT : T ∈ tyAsked) : PySem.W.kitOne K (.type t) (.type T) = some (subT t T) :=
  kit_ty (of_decide_eq_true (List.all_eq_true.mp (List.all_eq_true.mp kit_all t ht) T hT))
theorem tyD_mem {d : D} {t : String} (e : tyD d = some t) : t ∈ tyNames := by
  cases d <;> simp [tyD] at e <;> subst e <;> decide
theorem tyD_ok {K : PySem.W.Frag} {cl : Cw} {H G : Hp} (s : Sub G H) {v : V} {d : D} {t : String} (r : Rep K cl G v d) (e : tyD d = some t) : TyX K H v (.type t) := by
  cases r with
  | non => cases e; exact .base .non
  | bl b => cases e; exact .base (.bl b)
  | int i => cases e; exact .base (.int i)
  | str x => cases e; exact .base (.str x)
  | lst h1 h2 => cases e; exact .base (.lst (s _ _ h1))
  | tup h1 h2 => cases e; exact .base (.tup (s _ _ h1))
  | dct h1 _ h2 => cases e; exact .base (.dK (s _ _ h1))
  | ins _ _ _ _ => cases e
  | scr _ => cases e
  | set _ _ => cases e
def dIsi (Ts : List String) (fe : DE) : DE := fun δ => (fe δ).bind fun d δ1 => match tyD d with
  | some t => .ok (.bl (Ts.any (subT t))) δ1
  | none => .st
section
variable {c : Cf} {X : Cx} {e : Expr} {es : List Expr} {fe fb : DE} {fs : DA} {p pos pt p2 : Pos}
theorem je_isi {x T : Str} {T' : String} (hT : T' ∈ tyAsked) (hg : Gl X "isinstance") (hm : X.mg "isinstance" = none) (pe2 : PE X (.Name T pt) (tC (.ty T'))) (he : JE c X e fe)
    (hs : starEach (e :: [.Name T pt]) X.env = (false, eval e X.env) :: starEach [.Name T pt] X.env := by rfl) (hs2 : starEach [.Name T pt] X.env = (false, eval (.Name T pt) X.env) :: starEach [] X.env := by rfl) (hpl : (backTo pos (starEach [.Name T pt] X.env)).any (·.1) = false := by rfl) :
    JE c X (.Call (.Name "isinstance" p) [e, .Name T pt] [] pos) (dIsi [T'] fe) := by
  refine je_of (pe_callB call_isi hg hm (by decide +kernel) (pa_cons (peS X e) (pa_cons pe2 pa_nil hs2) hs) (by decide) (by decide) hs hpl) fun R H0 G0 H G σ δ Q k h => ?_
  refine he R H0 G0 H G σ δ _ k (EPost.imp (EPost.bind h) fun x H1 ⟨G1, d, δ1, s1, k1, r1, h1⟩ => ?_)
  cases q : tyD d with
  | none => rw [q] at h1; exact h1.elim
  | some t =>
    rw [q] at h1
    refine ⟨x, .ty T', _, _, _, rfl, .ty T', tyD_ok k1.sub r1 q, kit_one (tyD_mem q) hT, ?_⟩
    have := h1 (.bl ([T'].any (subT t))) H1 G1 (.refl G1) k1 (.bl _)
    simpa using this
theorem je_isi2 {T S : Str} {T' S' : String} {x1 : Nat} {ps : Pos} (hT : T' ∈ tyAsked) (hS : S' ∈ tyAsked) (hg : Gl X "isinstance") (hm : X.mg "isinstance" = none) (pe2 : PE X (.Name T pt) (tC (.ty T'))) (pe3 : PE X (.Name S p2) (tC (.ty S'))) (he : JE c X e fe)
    (hs : starEach (e :: [.Tuple [.Name T pt, .Name S p2] x1 ps]) X.env = (false, eval e X.env) :: starEach [.Tuple [.Name T pt, .Name S p2] x1 ps] X.env := by rfl) (hs2 : starEach [.Tuple [.Name T pt, .Name S p2] x1 ps] X.env = (false, eval (.Tuple [.Name T pt, .Name S p2] x1 ps) X.env) :: starEach [] X.env := by rfl)
    (hs3 : starEach [.Name T pt, .Name S p2] X.env = (false, eval (.Name T pt) X.env) :: starEach [.Name S p2] X.env := by rfl) (hs4 : starEach [.Name S p2] X.env = (false, eval (.Name S p2) X.env) :: starEach [] X.env := by rfl)
    (hpl : (backTo pos (starEach [.Tuple [.Name T pt, .Name S p2] x1 ps] X.env)).any (·.1) = false := by rfl) :
    JE c X (.Call (.Name "isinstance" p) [e, .Tuple [.Name T pt, .Name S p2] x1 ps] [] pos) (dIsi [T', S'] fe) := by
  refine je_of (pe_callB call_isiT hg hm (by decide +kernel) (pa_cons (peS X e) (pa_cons (pe_tup (pa_cons pe2 (pa_cons pe3 pa_nil hs4) hs3)) pa_nil hs2) hs) (by decide) (by decide) hs hpl) fun R H0 G0 H G σ δ Q k h => ?_
  refine he R H0 G0 H G σ δ _ k (EPost.imp (EPost.bind h) fun x H1 ⟨G1, d, δ1, s1, k1, r1, h1⟩ => ?_)
  refine ⟨by show 2 ≤ sizeLine; decide, fun pp np => ?_⟩
  cases q : tyD d with
  | none => rw [q] at h1; exact h1.elim
  | some t =>
    rw [q] at h1
    have gr := Grow.fresh k1.sub np (.tup [V.ty T', V.ty S'])
    refine ⟨x, pp, _, _, _, _, rfl, upd_same, .cons (.ty T') (.cons (.ty S') .nil), tyD_ok gr.sub r1 q, kitAny_cons (r := [T', S'].any (subT t)) (kit_one (tyD_mem q) hT) (fun hb => kitAny_cons (kit_one (tyD_mem q) hS) (fun hb2 => ?_) fun hb2 => ?_) (fun hb => ?_), ?_⟩
    · rw [kitAny_nil]; simp [hb, hb2]
    · simp [hb, hb2]
    · simp [hb]
    · exact h1 _ _ _ gr.gk (k1.grow gr) (.bl _)
/-! ### in -/
def rInT (K : PySem.W.Frag) : R2 := fun x y H Q => ∃ d ds, Dp K H x d ∧ Dp K H y (.tuple ds) ∧ SeqAt.shaped d = true ∧ SeqAt.shaped (.tuple ds) = true ∧ Q (.bl (ds.any fun z => PyData.eqv z d)) H
def rNotInT (K : PySem.W.Frag) : R2 := fun x y H Q => ∃ d ds, Dp K H x d ∧ Dp K H y (.tuple ds) ∧ SeqAt.shaped d = true ∧ SeqAt.shaped (.tuple ds) = true ∧ Q (.bl (!ds.any fun z => PyData.eqv z d)) H
theorem room_inT {A : Around} {d : PyData} {ds : List PyData} (h : SeqAt.shaped d = true) (hu : A.units + 65 < cLine) : A.units + 1 + min (PyData.depthAll ds) d.depth < cLine := by
  have h1 := SeqAt.depth_of_shaped h
  have h2 : min (PyData.depthAll ds) d.depth ≤ d.depth := Nat.min_le_right _ _
  omega
theorem op_inT (hu : X.A.units + 65 < cLine) : OpR X (compareOp .In) (rInT X.K) := by
  intro pins s σ H x y v u Q I rx ry h
  obtain ⟨d, ds, hd, he, sd, se, q⟩ := h
  obtain ⟨as, r1⟩ := Dp.reads I d x v hd rx
  obtain ⟨bs, r2⟩ := Dp.reads I (.tuple ds) y u he ry
  exact SeqAt.in_tuple_reads r2 r1 (SeqAt.canLay_of_shaped se) (SeqAt.canLay_of_shaped sd) (room_inT sd hu) ⟨.bl _, H, I, rfl, q⟩
theorem op_notInT (hu : X.A.units + 65 < cLine) : OpR X (compareOp .NotIn) (rNotInT X.K) := by
  intro pins s σ H x y v u Q I rx ry h
  obtain ⟨d, ds, hd, he, sd, se, q⟩ := h
  obtain ⟨as, r1⟩ := Dp.reads I d x v hd rx
  obtain ⟨bs, r2⟩ := Dp.reads I (.tuple ds) y u he ry
  exact SeqAt.notIn_tuple_reads r2 r1 (SeqAt.canLay_of_shaped se) (SeqAt.canLay_of_shaped sd) (room_inT sd hu) ⟨.bl _, H, I, rfl, q⟩
def inPy (d : PyData) : PyData → Option Bool
  | .list ds => if SeqAt.shaped d = true ∧ SeqAt.shaped (.list ds) = true then some (ds.any fun z => PyData.eqv z d) else none
  | .tuple ds => if SeqAt.shaped d = true ∧ SeqAt.shaped (.tuple ds) = true then some (ds.any fun z => PyData.eqv z d) else none
  | _ => none
def gIn (neg : Bool) (d e : D) : Option D := match toPy d, toPy e with
  | some p, some q => (inPy p q).map fun b => .bl (if neg then !b else b)
  | _, _ => none
theorem bin_in {K : PySem.W.Frag} {cl : Cw} : BinOk K cl (fun x y H Q => rInD K x y H Q ∨ rInT K x y H Q) (gIn false) := fun H G x y d e z Q s r1 r2 g q => by
  unfold gIn at g
  cases h1 : toPy d with
  | none => rw [h1] at g; cases g
  | some p =>
    cases h2 : toPy e with
    | none => rw [h1, h2] at g; cases g
    | some p2 =>
      rw [h1, h2] at g
      simp only [Option.map_eq_some_iff] at g
      obtain ⟨b, g, rfl⟩ := g
      cases p2 with
      | list ds =>
        simp only [inPy] at g
        by_cases hs : SeqAt.shaped p = true ∧ SeqAt.shaped (.list ds) = true
        · rw [if_pos hs] at g; cases g
          exact .inl ⟨p, ds, r1.dp s h1, r2.dp s h2, hs.1, hs.2, q _ H G (.refl s) (.bl _)⟩
        · rw [if_neg hs] at g; cases g
      | tuple ds =>
        simp only [inPy] at g
        by_cases hs : SeqAt.shaped p = true ∧ SeqAt.shaped (.tuple ds) = true
        · rw [if_pos hs] at g; cases g
          exact .inr ⟨p, ds, r1.dp s h1, r2.dp s h2, hs.1, hs.2, q _ H G (.refl s) (.bl _)⟩
        · rw [if_neg hs] at g; cases g
      | _ => simp [inPy] at g
theorem bin_notin {K : PySem.W.Frag} {cl : Cw} : BinOk K cl (fun x y H Q => rNotInD K x y H Q ∨ rNotInT K x y H Q) (gIn true) := fun H G x y d e z Q s r1 r2 g q => by
  unfold gIn at g
  cases h1 : toPy d with
  | none => rw [h1] at g; cases g
  | some p =>
    cases h2 : toPy e with
    | none => rw [h1, h2] at g; cases g
    | some p2 =>
      rw [h1, h2] at g
      simp only [Option.map_eq_some_iff] at g
      obtain ⟨b, g, rfl⟩ := g
      cases p2 with
      | list ds =>
        simp only [inPy] at g
        by_cases hs : SeqAt.shaped p = true ∧ SeqAt.shaped (.list ds) = true
        · rw [if_pos hs] at g; cases g
          exact .inl ⟨p, ds, r1.dp s h1, r2.dp s h2, hs.1, hs.2, q _ H G (.refl s) (.bl _)⟩
        · rw [if_neg hs] at g; cases g
      | tuple ds =>
        simp only [inPy] at g
        by_cases hs : SeqAt.shaped p = true ∧ SeqAt.shaped (.tuple ds) = true
        · rw [if_pos hs] at g; cases g
          exact .inr ⟨p, ds, r1.dp s h1, r2.dp s h2, hs.1, hs.2, q _ H G (.refl s) (.bl _)⟩
        · rw [if_neg hs] at g; cases g
      | _ => simp [inPy] at g
theorem cr_in (hu : X.A.units + 65 < cLine) : CmpR c X .In (fun x y H Q => rInD X.K x y H Q ∨ rInT X.K x y H Q) (gIn false) := ⟨(op_inD hu).or (op_inT hu), bin_in⟩
theorem cr_notin (hu : X.A.units + 65 < cLine) : CmpR c X .NotIn (fun x y H Q => rNotInD X.K x y H Q ∨ rNotInT X.K x y H Q) (gIn true) := ⟨(op_notInD hu).or (op_notInT hu), bin_notin⟩
/-! ### x op= y by value -/
theorem js_augOr {i : Nat} {x : Str} {pos' : Pos} (hN : X.N.Nodup) (hi : X.N[i]? = some x) (hx : Loc X.env.scope x) (he : JE c X e fe) (hf : X.fn x = true ∨ X.env.scope.names.lookup x = some .local := by first | exact .inl rfl | exact .inr rfl | assumption) :
    JS c X (.AugAssign (.Name x pos') .BitOr e pos) (sAug i (gI (fun _ _ => true) Builtin.bitOr) fe) := js_aug hN hi hx he iop_or bin_int0 hf
theorem js_augAnd {i : Nat} {x : Str} {pos' : Pos} (hN : X.N.Nodup) (hi : X.N[i]? = some x) (hx : Loc X.env.scope x) (he : JE c X e fe) (hf : X.fn x = true ∨ X.env.scope.names.lookup x = some .local := by first | exact .inl rfl | exact .inr rfl | assumption) :
    JS c X (.AugAssign (.Name x pos') .BitAnd e pos) (sAug i (gI (fun _ _ => true) Builtin.bitAnd) fe) := js_aug hN hi hx he iop_and bin_int0 hf
theorem js_augAdd {i : Nat} {x : Str} {pos' : Pos} (hN : X.N.Nodup) (hi : X.N[i]? = some x) (hx : Loc X.env.scope x) (he : JE c X e fe) (hf : X.fn x = true ∨ X.env.scope.names.lookup x = some .local := by first | exact .inl rfl | exact .inr rfl | assumption) :
    JS c X (.AugAssign (.Name x pos') .Add e pos) (sAug i (gI (fun _ _ => true) fun i j => i + j) fe) := js_aug hN hi hx he (r := rI0 fun i j => .int (i + j)) (fun pins s σ H x y v u Q I r1 r2 h => ip_add pins s σ H x y v u Q I r1 r2 h) bin_int0 hf
end

/-! ### raise, try -/
/-- what the written part says of an own exception class without __init__ of its own -/
structure ExcC (K : PySem.W.Frag) (mg : Str → Option Value) (cl : Cw) (x : Str) (C : Addr) : Prop where
  gC : mg x = some (.ref C)
  q : PySem.W.excIn K C [.type "ValueError", .type "Exception", .type "BaseException", .type "object"] "ValueError.__new__" = true
  kC : PySem.W.keepIn K (.ref C) = true
  exC : PySem.W.subIn K (.ref C) (.type "BaseException") = some true
  tyC : PySem.W.typeIn K (.ref C) = some (.type "type")
  cl : cl x = some C
section
variable {c : Cf} {X : Cx} {x : Str} {C : Addr} {p pos : Pos}
theorem pmk_own0 {bmB : List Value} {B newId initId : String} (F : ExcBaseFacts B newId initId bmB) (q : PySem.W.excIn X.K C bmB newId = true) (gC : X.mg x = some (.ref C)) (kC : PySem.W.keepIn X.K (.ref C) = true) (r : Raises X (.ref C)) (hg : Gl X x)
    (hdb : (x == ("__debug__" : Str)) = false := by decide) : PMk X (.Call (.Name x p) [] [] pos) (fun _ H Q => Q (.ref C) none H) := by
  intro pins s σ H Q I h
  refine wpAny_Call_Name_kw (ld_glob I hg gC ?_ hdb)
  refine PySem.W.callWith_K0 I.kIn kC ?_
  show wpAny _ _ (call (.ref C) []) _ _ _
  obtain ⟨bm, N, nm, qn, bs, hdct, sn, sub, ab, col, dd, k0, k1, k2, k3, k5, mN, hC, hN, hni, T⟩ := exc_obj I.kIn q
  refine wpAny_call_exc_subT F T hC hN hni (fun h' e hm => ?_) (Nat.zero_le _)
  exact mk_of I hm r h (I.hok.gone hm.new)
theorem js_raise0 (T : ExcC X.K X.mg c.cl x C) (hc : X.calm = true) (tk : Takes X c.W) (hg : Gl X x) (hdb : (x == ("__debug__" : Str)) = false := by decide) : JS c X (.Raise (some (.Call (.Name x p) [] [] p)) none pos) (fun δ => .ex x [] [] δ) := by
  refine js_of (ps_raise hc tk (pmk_own0 PySem.F.excBase_ValueError T.q T.gC T.kC (raises_own T.exC T.tyC) hg hdb)) fun R H0 G0 H G σ δ D' k h => ?_
  exact h (.ref C) none σ H G (.refl G) k ⟨C, rfl, T.cl, .inl ⟨rfl, rfl⟩⟩
theorem js_raise0' {p' : Pos} (T : ExcC X.K X.mg c.cl x C) (hc : X.calm = true) (tk : Takes X c.W) (hg : Gl X x) (hdb : (x == ("__debug__" : Str)) = false := by decide) : JS c X (.Raise (some (.Call (.Name x p) [] [] p')) none pos) (fun δ => .ex x [] [] δ) := by
  refine js_of (ps_raise hc tk (pmk_own0 PySem.F.excBase_ValueError T.q T.gC T.kC (raises_own T.exC T.tyC) hg hdb)) fun R H0 G0 H G σ δ D' k h => ?_
  exact h (.ref C) none σ H G (.refl G) k ⟨C, rfl, T.cl, .inl ⟨rfl, rfl⟩⟩
/-- which handler takes which class -/
def ExmTab (K : PySem.W.Frag) (cl : Cw) (tab : Str → Str → Option Bool) : Prop := ∀ (a b : Str) (r : Bool) (A B : Addr), tab a b = some r → cl a = some A → cl b = some B → PySem.W.exmOne K (.ref A) (.ref B) = some r
def tryH (tab : Str → Str → Option Bool) : List (Str × DS) → Str → List Str → List D → DEnv → SO
  | [], cn, ns, ds, δ => .ex cn ns ds δ
  | (h, s) :: r, cn, ns, ds, δ => match tab cn h with
    | some true => (match s δ with
      | .ex _ _ _ _ => .st
      | o => o)
    | some false => tryH tab r cn ns ds δ
    | none => .st
def sTry (tab : Str → Str → Option Bool) (f : DS) (hs : List (Str × DS)) : DS := fun δ => match f δ with
  | .ex cn ns ds δ1 => tryH tab hs cn ns ds δ1
  | o => o
/-- the handlers -/
inductive HdsD (c : Cf) (X : Cx) : List ExceptHandler → List (Str × DS) → List (Value × (Addr → Value → Option Addr → TS)) → Prop
  | nil : HdsD c X [] [] []
  | cons {y : Str} {C : Addr} {b₀ : Stmt} {suite : List Stmt} {np pos' : Pos} {hds : List ExceptHandler} {hs : List (Str × DS)} {l : List (Value × (Addr → Value → Option Addr → TS))} {f : DS}
      (hc : Names X y (.ref C)) (hcl : c.cl y = some C) (hsu : ∀ (a : Addr) (oe : Obj) (cls : Value) (d : Option Addr) (pn : List (Addr × Obj)), Zc cls d oe → JSs ⟨fun _ _ _ _ => False, c.cl, c.hx⟩ (X.suite a ((a, oe) :: pn)) (b₀ :: suite) f) (r : HdsD c X hds hs l) :
      HdsD c X (.ExceptHandler (some (.Name y np)) none (b₀ :: suite) pos' :: hds) ((y, f) :: hs) ((.ref C, fun a cls d D σ H => ∀ oe pn, Zc cls d oe → (∃ vs, oe.data = .fields vs) → tSs (X.suite a ((a, oe) :: pn)) (b₀ :: suite) D σ H) :: l)
theorem HdsD.ok {hds : List ExceptHandler} {hs : List (Str × DS)} {l : List (Value × (Addr → Value → Option Addr → TS))} (h : HdsD c X hds hs l) : HdsOk X hds l := by
  induction h with
  | nil => exact .nil
  | cons hc hcl hsu r ih => exact .cons hc (fun a oe cls d pn z hf => ⟨fun pins s σ H D I q => q oe pn z hf pins s I⟩) ih
theorem HdsD.wish {tab : Str → Str → Option Bool} (ht : ExmTab X.K c.cl tab) {hds : List ExceptHandler} {hs : List (Str × DS)} {l : List (Value × (Addr → Value → Option Addr → TS))} (h : HdsD c X hds hs l) {R : List (Nat × Addr)} {H0 G0 H G : Hp} {σ : L2.St} {δ : DEnv} {D' : Ends} {cn : Str} {ns : List Str} {ds : List D} {cls : Value} {dd : Option Addr}
    (k : (c.fx X R H0 G0).Ok H G σ δ) (xo : XOk X.K c.cl G cn ns ds cls dd) (q : SPost (c.fx X R H0 G0) c.W G (tryH tab hs cn ns ds δ) D') : wMany X.K c.W D' l cls dd σ H := by
  obtain ⟨A, rfl, hA, xr⟩ := xo
  induction h with
  | nil => exact q (.ref A) dd σ H G (.refl G) k ⟨A, rfl, hA, xr⟩
  | @cons y C b₀ suite np pos' hds hs l f hc hcl hsu r ih =>
    unfold tryH at q
    cases e : tab cn y with
    | none => rw [e] at q; exact q.elim
    | some b =>
      rw [e] at q
      refine ⟨b, ht cn y b A C e hA hcl, fun hb a na => ?_, fun hb => ?_⟩
      · subst hb
        dsimp only at q
        intro oe pn z hf
        refine hsu a oe (.ref A) dd pn z R H0 G0 H G σ δ D' k ?_
        cases e2 : f δ with
        | ex cn' ns' ds' δ' => rw [e2] at q; exact q.elim
        | nx δ' => rw [e2] at q; exact q
        | rt d δ' => rw [e2] at q; exact q
        | ro d δ' => rw [e2] at q; exact q
        | bk δ' => rw [e2] at q; exact q
        | ct δ' => rw [e2] at q; exact q
        | st => rw [e2] at q; exact q
      · subst hb
        exact ih q
theorem js_try {tab : Str → Str → Option Bool} (ht : ExmTab X.K c.cl tab) {body : List Stmt} {h₀ : ExceptHandler} {hds : List ExceptHandler} {hs : List (Str × DS)} {l : List (Value × (Addr → Value → Option Addr → TS))} {f : DS}
    (hst : X.stack = X.env :: X.outer) (hfr : X.env.frame = some X.env.locals) (tk : Takes X c.W)
    (hb : ∀ (W : WX) (pn : List (Addr × Obj)) (xe : Value → Shared → Prop), Takes (X.tr pn xe) W → PassesOwn (model X.prog X.w) X.A X.env xe → JSs ⟨W, c.cl, c.hx⟩ (X.tr pn xe) body f)
    (hh : HdsD c X (h₀ :: hds) hs l) : JS c X (.Try body (h₀ :: hds) [] [] pos) (sTry tab f hs) := by
  refine js_of (ps_try_many (tb := fun W D σ H => ∀ pn xe, Takes (X.tr pn xe) W → PassesOwn (model X.prog X.w) X.A X.env xe → tSs (X.tr pn xe) body D σ H) hst hfr tk (fun W pn xe h1 h2 => ⟨fun pins s σ H D I h => h pn xe h1 h2 pins s I⟩) hh.ok) fun R H0 G0 H G σ δ D' k h => ?_
  intro pn xe h1 h2
  refine hb _ pn xe h1 h2 R H0 G0 H G σ δ D' k ?_
  unfold sTry at h
  cases e : f δ with
  | ex cn ns ds δ1 =>
    rw [e] at h
    dsimp only at h
    exact fun cls dd σ' H' G' s' k' xo => hh.wish ht k' xo (SPost.weak s' h)
  | nx δ1 => rw [e] at h; exact h
  | rt d δ1 => rw [e] at h; exact h
  | ro d δ1 => rw [e] at h; exact h
  | bk δ1 => rw [e] at h; exact h
  | ct δ1 => rw [e] at h; exact h
  | st => rw [e] at h; exact h
end

/-! ### the end -/
def spTrue (K : PySem.W.Frag) : Sp := fun vs H Q _ => ∃ (a : Addr) (ns : List Int), vs = [.ref a] ∧ SqL K H a (ns.map V.int) ∧ ns.length ≤ 63 ∧ ∀ H', Q (.bl true) H'
theorem law_true {P : Program} {w : World} {K : PySem.W.Frag} {mg : Str → Option Value} {base : Heap} {cl : Cw} {k : Nat} {f : Addr} {fd : FuncData} {ps : List Str} {fn : List D → FO} (F : FnOk P w K mg base (L2.CX P w) k f fd ps (SpF K cl [false] fn))
    (h : ∀ ns : List Int, ns.length ≤ 63 → fn [.scr ns] = .ret (.bl true) []) : FnOk P w K mg base (L2.CX P w) k f fd ps (spTrue K) := by
  refine F.imp fun vs H Q E q => ?_
  obtain ⟨a, ns, rfl, hS, hl, q⟩ := q
  refine ⟨H, [.scr ns], .refl H, .val (.scr hS) .nil, .nil, ?_⟩
  rw [h ns hl]
  intro v H' G' _ _ r
  cases r
  exact q H'
theorem cx_none {P : Program} {w : World} {H : Hp} {s s' : Shared} {e : Value} (h : L2.CX P w [] H s (fun _ _ _ => False) e s') : False := by
  obtain ⟨_, _, _, _, _, _, _, _, _, _, _, _, z⟩ := h
  exact z.elim
theorem end_walk {l : PySem.W.OpenLaw} {k : Nat} {q : Program} {loose : List Str} {XP : (Str → Option Value) → Heap → Prop} {YP : World → Heap → Prop} {d : DefRec} {K : Params → PySem.W.Frag} {x : Str}
    (hn : l.most = some 63) (hdf : d.params.defaults = []) (hr : Room k callerA) (hY : ∀ (w : World) (h : Heap), YP w h → (K w.params).In h)
    (F : ∀ (w : World) (mg : Str → Option Value) (fa : Addr) (h : Heap), (K w.params).In h → h.Ns mainGlobals mg → mg d.name = some (.ref fa) →
      ∃ fd : FuncData, (∀ (s : Shared) (u : Value), BindsTo s fd ⟨[u], []⟩ [(x, u)]) ∧ ∀ base : Heap, (K w.params).In base → base.Ns mainGlobals mg → FnOk l.prog w (K w.params) mg base (L2.CX l.prog w) k fa fd [x] (spTrue (K w.params))) :
    PySem.W.WalkO q loose XP YP l.row.toRowW d [] (fun f vs => PySem.call f vs) :=
  L2.walk_of (n := 63) (k := k) (x := x) (CX := fun w => L2.CX l.prog w) (sp := fun w => spTrue (K w.params)) hn (by decide) hdf hr hY F (fun _ _ a ns hl _ hS => ⟨a, ns, rfl, hS, hl, fun _ => rfl⟩) fun _ _ _ _ _ z => cx_none z
end DL

set_option maxRecDepth 100000
set_option maxHeartbeats 4000000
namespace DL
open PySem PySem.Spec PyProof.Rows L2
theorem hu65 {k : Nat} {A : Around} (r : Room k A) : A.units + 65 < cLine := by have := r.un; omega
theorem hu64 {k : Nat} {A : Around} (r : Room k A) : A.units + 64 < cLine := by have := r.un; omega
section
variable {c : Cf} {X : Cx} {tg e : Expr} {fe : DE} {pos : Pos}
theorem fpost_setO {R : List (Nat × Addr)} {H0 G0 G : Hp} {σ : L2.St} {i : Nat} {o : EO D} {D' : Ends} (h : SPost (c.fx X R H0 G0) c.W G (o.to fun d δ1 => oNx (setO i d δ1)) D') : FPost (c.fx X R H0 G0) c.W σ G o (fun x H1 => D'.nx (σ.set i (some x)) H1) := by
  have h' := SPost.ofF (σ := σ) h
  cases o with
  | st => exact h'
  | ex cn ns ds δ1 => exact h'
  | ok d δ1 =>
    intro a H1 G1 s1 k1 ga h0 w hs'
    obtain ⟨a', G2, d', δ2, ea, s2, k2, ga2, h02, w2, hs2, h1⟩ := h' a H1 G1 s1 k1 ga h0 w hs'
    cases ea
    cases q2 : setO i d' δ2 with
    | none => rw [q2] at h1; exact h1.elim
    | some δ3 => rw [q2] at h1; exact h1 _ H1 G2 (.refl G2) (k2.setO q2 ga2 h02 w2 hs2)
theorem fpost_set {R : List (Nat × Addr)} {H0 G0 G : Hp} {σ : L2.St} {i : Nat} {o : EO D} {D' : Ends} (h : SPost (c.fx X R H0 G0) c.W G (o.to fun d δ1 => oNx (setV i d δ1)) D') : FPost (c.fx X R H0 G0) c.W σ G o (fun x H1 => D'.nx (σ.set i (some x)) H1) := by
  have h' := SPost.ofF (σ := σ) h
  cases o with
  | st => exact h'
  | ex cn ns ds δ1 => exact h'
  | ok d δ1 =>
    intro a H1 G1 s1 k1 ga h0 w hs'
    obtain ⟨a', G2, d', δ2, ea, s2, k2, ga2, h02, w2, hs2, h1⟩ := h' a H1 G1 s1 k1 ga h0 w hs'
    cases ea
    obtain ⟨G3, s3, r3, k3⟩ := k2.freezeNew ga2 h02 w2 hs2
    cases q2 : setV i d' δ2 with
    | none => rw [q2] at h1; exact h1.elim
    | some δ3 => rw [q2] at h1; exact h1 _ H1 G3 s3 (k3.setV q2 r3)
variable {elt iter : Expr} {ifs : List Expr} {scope : Scope} {own : List (Str × Nat)} {ts : List Nat} {it : DI} {A : D → DEnv → Option DEnv} {t : DT} {el : DE} {i : Nat} {y : Str} {py spos : Pos}
theorem js_lcO (hc : X.calm = true) (hN : X.N.Nodup) (hy : X.N[i]? = some y) (hyl : X.env.scope.names.lookup y = some .local) (hsw : swapsWith (.ListComp elt [⟨tg, iter, ifs, 0⟩] scope pos) (some (.Name y py)) spos.line X.env = pure true) (hi : JI c X tg iter it) (ok : BlkOk X.N X.env.scope scope own)
    (hts : ∀ i ∈ ts, i ∈ own.map (·.2))
    (hg : ∀ (s : Shared) (H : Hp) (C : Addr) (cl : List (Str × Addr)) (fp : List Addr), JG c.nox (X.blk s H scope (compEnvC scope cl C X.env) fp) tg ts A)
    (ht : ∀ (s : Shared) (H : Hp) (C : Addr) (cl : List (Str × Addr)) (fp : List Addr), JTs c.nox (X.blk s H scope (compEnvC scope cl C X.env) fp) ifs t)
    (he : ∀ (s : Shared) (H : Hp) (C : Addr) (cl : List (Str × Addr)) (fp : List Addr), JE c.nox (X.blk s H scope (compEnvC scope cl C X.env) fp) elt el) (hs : ∀ x, foldedSetIterable iter X.env x = pure x := by intro _; rfl) :
    JS c X (.Assign [.Name y py] (.ListComp elt [⟨tg, iter, ifs, 0⟩] scope pos) spos) (sSetO i (dComp it A t el (own.map (·.2)))) := by
  refine js_of (ps_setLc hc hN hy hyl hsw (piS X tg iter) ok (pgB X scope tg) (ptB X scope ifs) (peB X scope elt) hs) fun R H0 G0 H G σ δ D' k h => ?_
  exact lc_ok hi hts hg ht he k (fpost_setO h)
theorem js_lc (hc : X.calm = true) (hN : X.N.Nodup) (hy : X.N[i]? = some y) (hyl : X.env.scope.names.lookup y = some .local) (hsw : swapsWith (.ListComp elt [⟨tg, iter, ifs, 0⟩] scope pos) (some (.Name y py)) spos.line X.env = pure true) (hi : JI c X tg iter it) (ok : BlkOk X.N X.env.scope scope own)
    (hts : ∀ i ∈ ts, i ∈ own.map (·.2))
    (hg : ∀ (s : Shared) (H : Hp) (C : Addr) (cl : List (Str × Addr)) (fp : List Addr), JG c.nox (X.blk s H scope (compEnvC scope cl C X.env) fp) tg ts A)
    (ht : ∀ (s : Shared) (H : Hp) (C : Addr) (cl : List (Str × Addr)) (fp : List Addr), JTs c.nox (X.blk s H scope (compEnvC scope cl C X.env) fp) ifs t)
    (he : ∀ (s : Shared) (H : Hp) (C : Addr) (cl : List (Str × Addr)) (fp : List Addr), JE c.nox (X.blk s H scope (compEnvC scope cl C X.env) fp) elt el) (hs : ∀ x, foldedSetIterable iter X.env x = pure x := by intro _; rfl) :
    JS c X (.Assign [.Name y py] (.ListComp elt [⟨tg, iter, ifs, 0⟩] scope pos) spos) (sSet i (dComp it A t el (own.map (·.2)))) := by
  refine js_of (ps_setLc hc hN hy hyl hsw (piS X tg iter) ok (pgB X scope tg) (ptB X scope ifs) (peB X scope elt) hs) fun R H0 G0 H G σ δ D' k h => ?_
  exact lc_ok hi hts hg ht he k (fpost_set h)
/-- a, b = e -/
def sUnp (A : D → DEnv → Option DEnv) (f : DE) : DS := fun δ => (f δ).to fun d δ1 => oNx (A d δ1)
theorem js_unp {ts : List Nat} {A : D → DEnv → Option DEnv} (hg : JG c X tg ts A) (he : JE c X e fe) (hs : swapsWithSole [tg] e pos.line X.env = pure false := by rfl) (hw : swappedStores [tg] e X.env = pure none := by rfl)
    (h1 : (assignEach [tg] X.env).map (·.2) = [assign tg X.env] := by rfl) : JS c X (.Assign [tg] e pos) (sUnp A fe) := by
  refine js_of (ps_asg (peS X e) (pgS X tg) hs hw h1) fun R H0 G0 H G σ δ D' k h => ?_
  refine he R H0 G0 H G σ δ _ k (EPost.imp (SPost.ofE h) fun v H1 ⟨G1, d, δ1, s1, k1, r1, h1⟩ => ?_)
  cases q : A d δ1 with
  | none => rw [q] at h1; exact h1.elim
  | some δ2 => rw [q] at h1; exact hg R H0 G0 H1 G1 σ δ1 δ2 v d _ k1 r1 q fun σ' k' _ => h1 σ' H1 G1 (.refl G1) k'
end
end DL

set_option maxRecDepth 100000
set_option maxHeartbeats 4000000
namespace DL
open PySem PySem.Spec PyProof.Rows L2
def dRefA (j : Nat) (fs : DA) : DA := fun δ => match δ[j]? with | some s => if isO s then dRef j fs δ else .st | none => .st
section
variable {c : Cf} {X : Cx} {e : Expr} {es : List Expr} {fs : DA}
theorem ja_refA {j : Nat} (p : PE X e (tVar j)) (hr : JA c X es fs) (hs : starEach (e :: es) X.env = (false, eval e X.env) :: starEach es X.env := by rfl) : JA c X (e :: es) (dRefA j fs) := ja_ref p hr hs
end
/-- no call is left -/
theorem none_ok {P : Program} {w : World} {K : PySem.W.Frag} {mg : Str → Option Value} {base : Heap} {cl : Cw} {k : Nat} {f : Addr} {fd : FuncData} {ps : List Str} {ks : List Bool} {fn : List D → FO} (h : ∀ ds, fn ds = .st) : FnOk P w K mg base (L2.CX P w) k f fd ps (SpF K cl ks fn) := by
  have no : ∀ vs H Q E, ¬ SpF K cl ks fn vs H Q E := fun vs H Q E q => by
    obtain ⟨G, ds, _, _, _, q⟩ := q
    rw [h ds] at q
    exact q
  exact ⟨fun vs H Q E q => absurd q (no vs H Q E), fun A outer s H args us vs Q E _ _ _ _ q => absurd q (no vs H Q E)⟩
/-- a def with defaults -/
theorem def_okD {P : Program} {w : World} {K : PySem.W.Frag} {mg : Str → Option Value} {base : Heap} {cl : Cw} {x qual : Str} {st : Stmt} {f : Addr} {fd : FuncData} {N ps : List Str} {k : Nat} {ks : List Bool} {F : DS} {dvs : List V} {kws : List (Str × V)}
    (FF : FunD K x qual (defArgs st) (defBody st) (defScope st) dvs kws f fd) (S : FnScope N ps (defScope st)) (hk : ks.length = ps.length)
    (hbody : ∀ (cdv : Value) (A : Around) (outer : List Env) (s : Shared) (H : Hp) (E : XK), Room k (A.deeper (envOfC qual (defScope st) s.heap.objs.size f cdv)) →
      Takes (cxOf (L2.CX P w) P w K mg base N qual (defScope st) f cdv A outer s H E) (fun c d _ H => E c d H) →
      PassesOwn (model P w) (A.deeper (envOfC qual (defScope st) s.heap.objs.size f cdv)) (envOfC qual (defScope st) s.heap.objs.size f cdv) (cxOf (L2.CX P w) P w K mg base N qual (defScope st) f cdv A outer s H E).xe →
      JSs ⟨fun c d _ H => E c d H, cl, (0, none)⟩ (cxOf (L2.CX P w) P w K mg base N qual (defScope st) f cdv A outer s H E) (defBody st) F) :
    FnOk P w K mg base (L2.CX P w) (k + 1) f fd ps (SpF K cl ks (defF ks N.length F)) := by
  exact FF.ok S (spF_len hk) (def_read S hk hbody)
/-- exceptions by name -/
def clOf (l : List (Str × Addr)) (x : Str) : Option Addr := l.lookup x
def tabOf (l : List (Str × Str × Bool)) (a b : Str) : Option Bool := (l.find? fun p => decide (p.1 = a) && decide (p.2.1 = b)).map (·.2.2)
theorem tab_ok {K : PySem.W.Frag} {cl : Cw} {l : List (Str × Str × Bool)} (h : ∀ p ∈ l, ∃ A B, cl p.1 = some A ∧ cl p.2.1 = some B ∧ PySem.W.exmOne K (.ref A) (.ref B) = some p.2.2) : ExmTab K cl (tabOf l) := fun a b r A B e ha hb => by
  unfold tabOf at e
  rw [Option.map_eq_some_iff] at e
  obtain ⟨p, e1, rfl⟩ := e
  have hm := List.mem_of_find?_eq_some e1
  have hp := List.find?_some e1
  simp only [Bool.and_eq_true, decide_eq_true_eq] at hp
  obtain ⟨A', B', q1, q2, q3⟩ := h p hm
  rw [hp.1, ha] at q1
  rw [hp.2, hb] at q2
  cases q1; cases q2
  exact q3
end DL

set_option maxRecDepth 100000
set_option maxHeartbeats 4000000
namespace DL
open PySem PySem.Spec PyProof.Rows L2

/-! ### a list or a tuple, by kind -/
def SqK (k : Bool) (K : PySem.W.Frag) (H : Hp) (a : Addr) (xs : List V) : Prop := match k with | true => SqT K H a xs | false => SqL K H a xs
def IsK (k : Bool) (h : Heap) (a : Addr) (its : Array Value) : Prop := match k with | true => h.IsTuple a its | false => h.IsList a its
def IsKi (k : Bool) (h : Heap) (it a : Addr) (i : Nat) : Prop := match k with | true => h.IsTupleIter it a i | false => h.IsListIter it a i
def itK (k : Bool) (a : Addr) : Obj := match k with
  | true => { cls := .type "tuple_iterator", data := .fields #[.ref a, .int 0 0] }
  | false => { cls := .type "list_iterator", data := .fields #[.ref a, .int 0 0] }
theorem Sub.sqK {k : Bool} {K : PySem.W.Frag} {G G' : Hp} (s : Sub G G') {a : Addr} {xs : List V} (h : SqK k K G a xs) : SqK k K G' a xs := by
  cases k with
  | true => exact s.sqT h
  | false => exact s.sqL h
theorem IsK.lt {k : Bool} {h : Heap} {a : Addr} {its : Array Value} (p : IsK k h a its) : a < h.objs.size := by
  cases k with
  | true => obtain ⟨o, e, _⟩ := p; exact Heap.lt_size e
  | false => obtain ⟨o, e, _⟩ := p; exact Heap.lt_size e
theorem IsK.at {k : Bool} {h h' : Heap} {a : Addr} {its : Array Value} (p : IsK k h a its) (e : ∀ o, h.get? a = some o → h'.get? a = some o) : IsK k h' a its := by
  cases k with
  | true => exact Heap.IsTuple.at p e
  | false => exact Heap.IsList.at p e
theorem IsKi.at {k : Bool} {h h' : Heap} {it a : Addr} {i : Nat} (p : IsKi k h it a i) (e : ∀ o, h.get? it = some o → h'.get? it = some o) : IsKi k h' it a i := by
  cases k with
  | true => exact Heap.IsTupleIter.at p e
  | false => exact Heap.IsListIter.at p e
theorem IsKi.obj {k : Bool} {h : Heap} {it a : Addr} {i : Nat} (p : IsKi k h it a i) : ∃ o, h.get? it = some o ∧ ∀ v, o.data ≠ .cell v := by
  cases k with
  | true => obtain ⟨o, e, _, d⟩ := p; exact ⟨o, e, fun v q => by rw [d] at q; cases q⟩
  | false => obtain ⟨o, e, _, d⟩ := p; exact ⟨o, e, fun v q => by rw [d] at q; cases q⟩
theorem IsKi.new {k : Bool} {h : Heap} {it a : Addr} (e : h.get? it = some (itK k a)) : IsKi k h it a 0 := by
  cases k with
  | true => exact ⟨_, e, rfl, rfl⟩
  | false => exact ⟨_, e, rfl, rfl⟩
theorem beginsK (k : Bool) (a : Addr) (its : Array Value) : Begins (.ref a) (itK k a) fun h => IsK k h a its := by
  cases k with
  | true => exact begins_tuple a its
  | false => exact begins_list a its
theorem drawsK {prog : Program} {w : World} {A : Around} (hh : A.handled = none) (k : Bool) (it a : Addr) (hne : a ≠ it) (its : Array Value) :
    Draws prog w A it [it, a] its.size (fun i v => its[i]? = some v) (fun i h => IsKi k h it a i ∧ IsK k h a its) := by
  cases k with
  | true => exact Draws.tuple hh it a hne its
  | false => exact Draws.list hh it a hne its
section
variable {X : Cx} {pins : List (Addr × Obj)} {σ : L2.St} {H : Hp} {s : Shared} {a : Addr} {xs ys : List V} {k : Bool}
theorem Inv.sqK (I : Inv X pins σ H s) (h : SqK k X.K H a xs) : ∃ its : List Value, Vals xs its ∧ IsK k s.heap a its.toArray := by
  cases k with
  | true => obtain ⟨its, r, p, _⟩ := I.tuple h; exact ⟨its, r, p⟩
  | false => obtain ⟨its, r, p, _⟩ := I.list h; exact ⟨its, r, p.isList⟩
theorem Inv.sqK_inj (I : Inv X pins σ H s) (h : SqK k X.K H a xs) (h' : SqK k X.K H a ys) : xs = ys := by
  cases k with
  | true => exact I.tuple_inj h h'
  | false => exact I.list_inj h h'
end
theorem vals_get {xs : List V} {its : List Value} (r : Vals xs its) {i : Nat} {u : Value} (e : its[i]? = some u) : ∃ x, xs[i]? = some x ∧ RelV x u := by
  have hi : i < xs.length := by rw [r.length]; exact (List.getElem?_eq_some_iff.mp e).1
  obtain ⟨u', e', ru⟩ := r.get (List.getElem?_eq_getElem hi)
  rw [e] at e'; cases e'
  exact ⟨_, List.getElem?_eq_getElem hi, ru⟩

/-! ### enumerate -/
/-- what stands at a, item by item, each in a new pair -/
def ItEn (k : Bool) (K : PySem.W.Frag) (a : Addr) : It :=
  ⟨fun i H => ∃ (xs : List V) (x : V), SqK k K H a xs ∧ xs[i]? = some x, fun i H v H' => ∃ T x, v = .ref T ∧ H T = none ∧ H' = upd H T (.tup [.int (i : Nat), x]) ∧ ∀ xs, SqK k K H a xs → xs[i]? = some x, fun i H => ∃ xs : List V, SqK k K H a xs ∧ xs.length = i⟩
theorem turnEn {P : Program} {w : World} {K : PySem.W.Frag} {elts : List Expr} {kk : Nat} {tpos : Pos} (k : Bool) (a e it : Addr) :
    Turn P w K (.Tuple elts kk tpos) (ItEn k K a) [e, it] e (fun i h => (∃ old, IsEnum h e it ((i : Nat) : Int) old) ∧ IsKi k h it a i ∧ e ≠ it ∧ a ≠ it ∧ a ≠ e) where
  mem := by simp
  obj := fun i h st b hb => by
    obtain ⟨⟨old, he⟩, hi, _⟩ := st
    have e' : b = e ∨ b = it := by simpa using hb
    rcases e' with z | z
    · subst z; exact ⟨_, he, fun v q => nomatch q⟩
    · subst z; exact hi.obj
  keep := fun i h h' st q => by
    obtain ⟨⟨old, he⟩, hi, n1, n2, n3⟩ := st
    exact ⟨⟨old, q e (by simp) _ he⟩, hi.at fun o => q it (by simp) o, n1, n2, n3⟩
  item := by
    intro X hP hw hK hc i pins s σ H E I hf st hg
    subst hP hw hK
    obtain ⟨⟨old, he⟩, hit, n1, n2, n3⟩ := st
    obtain ⟨xs, x, hq, hx⟩ := hg
    obtain ⟨its, rv, p⟩ := Inv.sqK I hq
    have hel : e < s.heap.objs.size := Heap.lt_size he
    have hil : it < s.heap.objs.size := by obtain ⟨_, q, _⟩ := hit.obj; exact Heap.lt_size q
    have hlt : i < its.toArray.size := by
      have := (List.getElem?_eq_some_iff.mp hx).1
      rw [rv.length] at this
      simpa using this
    refine wpAny_pyNext_enum_itemC (drawsK (prog := X.prog) (w := X.w) (A := X.A.in1) (I.ok.hd hc) k it a n2 its.toArray) he ⟨hit, p⟩ hlt n1 (by simp [n1, Ne.symm n3]) fun u h1 tk hu ho st1 hT hsz hk => ?_
    have hu : its[i]? = some u := by simpa using hu
    obtain ⟨x', hx', ru⟩ := vals_get rv hu
    rw [hx] at hx'; cases hx'
    refine ⟨_, rfl, wpAny_letOwnedTupleGo_enum (s := { s with heap := h1, toks := tk + 1 }) ho fun h2 he2 sb => ?_⟩
    have hT2 : h2.get? s.heap.objs.size = some { cls := .type "tuple", data := .seq #[.int i tk, u] } := (sb.2 _ (Nat.ne_of_gt hel)).trans hT
    have new : ObjOk X.prog X.w (upd H s.heap.objs.size (.tup [.int (i : Nat), x])) h2 s.heap.objs.size (.tup [.int (i : Nat), x]) := ⟨by show 2 ≤ sizeLine; decide, [.int i tk, u], .cons ⟨_, rfl⟩ (.cons ru .nil), ⟨_, hT2, rfl, _, rfl⟩⟩
    have I1 : Inv X pins σ (upd H s.heap.objs.size (.tup [.int (i : Nat), x])) { s with heap := h2, toks := tk + 1 } :=
      I.turnedNew (ch := [e, it]) (fun b ob hb q => (sb.2 b (by intro z; apply hb; simp [z])).trans (hk b ob (by intro z; apply hb; simp [z]) (by intro z; apply hb; simp [z]) q)) hf (Nat.le_refl _) new
    refine ⟨.ref s.heap.objs.size, _, I1, rfl, ⟨_, x, rfl, I.hok.fresh (Nat.le_refl _), rfl, fun ys hy => by rw [Inv.sqK_inj I hy hq]; exact hx⟩, ⟨⟨u, ?_⟩, st1.1.at fun o q => (sb.2 it (Ne.symm n1)).trans q, n1, n2, n3⟩, fun b hb => ?_⟩
    · show IsEnum h2 e it (((i + 1 : Nat)) : Int) u
      have z : ((i + 1 : Nat) : Int) = (i : Int) + 1 := by omega
      rw [z]; exact he2
    · have hb2 : b < s.heap.objs.size := by
        have z : b = e ∨ b = it := by simpa using hb
        rcases z with z | z
        · subst z; exact hel
        · subst z; exact hil
      rw [upd_ne (Nat.ne_of_lt hb2)]
      exact (hf b hb).1
  done := by
    intro X hP hw hK hc i pins s σ H E I hf st hg
    subst hP hw hK
    obtain ⟨⟨old, he⟩, hit, n1, n2, n3⟩ := st
    obtain ⟨xs, hq, hx⟩ := hg
    obtain ⟨its, rv, p⟩ := Inv.sqK I hq
    have hn : its.toArray.size = i := by rw [← hx, rv.length]; simp
    obtain ⟨f0, f1, f2, f3, f4, f5⟩ := hf it (by simp)
    refine wpAny_pyNext_enum_endD (drawsK (prog := X.prog) (w := X.w) (A := X.A.in1) (I.ok.hd hc) k it a n2 its.toArray) he (by rw [hn]; exact ⟨hit, p⟩) fun h' eb => ⟨rfl, I.turned (t' := s.toks) (fun b o hb q => eb b o hb q) f0 f1 f3 f4 f5⟩
  self := fun A i s Q E st h => by
    obtain ⟨⟨_, he⟩, _⟩ := st
    exact wpAny_pyIter_enum he h
set_option maxHeartbeats 1000000 in
theorem meets_en1 {v : Value} {o : Obj} {Hh : Heap → Prop} (B : Begins v o Hh) :
    Meets (Builtin.«enumerate.__new__» ⟨[.type "enumerate", v], []⟩) (fun _ R s => Hh s.heap ∧
      R (.ok (.ret (.ref (s.heap.push o).objs.size))) { s with heap := (s.heap.push o).push { cls := .type "enumerate", data := .fields #[.none, .bool false, .ref s.heap.objs.size, rawInt 0, .none, .none] } }) :=
  .of_wp fun prog w A R s z => by
    obtain ⟨hp, g, d, tk, os⟩ := s
    obtain ⟨z1, z2⟩ := z
    have hsub := sub_enumerate
    have gone : ∀ {A' : Around} {E : Value → Shared → Prop} {Q : Value → Shared → Prop}, Q (.ref hp.objs.size) ⟨hp.push o, g, d, tk, os⟩ → wpAny (model prog w) A' (pyIter v) Q E ⟨hp, g, d, tk, os⟩ :=
      fun q => B.iter prog w _ _ ⟨hp, g, d, tk, os⟩ _ z1 q
    wp_walk using gone
    refine wpAny_stack_any fun st => wpAny_pure ?_
    split
    · rename_i c _ _ _ _ _
      cases (c == Value.type "enumerate")
      · wp_walk using gone
        exact ⟨_, rfl, z2⟩
      · wp_walk using gone
        exact ⟨_, rfl, z2⟩
    · wp_walk using gone
      exact ⟨_, rfl, z2⟩
theorem call_en1 {prog : Program} {w : World} {A : Around} {E : Value → Shared → Prop} {s : Shared} {v : Value} {o : Obj} {Hh : Heap → Prop} {Q : Value → Shared → Prop} (B : Begins v o Hh) (h1 : Hh s.heap)
    (h : ∀ h', IsEnum h' (s.heap.objs.size + 1) s.heap.objs.size 0 .none → h'.get? s.heap.objs.size = some o → (∀ b o, s.heap.get? b = some o → h'.get? b = some o) → Q (.ref (s.heap.objs.size + 1)) { s with heap := h' }) :
    wpAny (model prog w) A (call (.type "enumerate") [v]) Q E s := by
  refine callType_new F.called_enumerate (by decide) (F.typeCall_enumerate_1 _) (F.newCall_enumerate_1 _) (fun obj => F.args_object_init_2 obj _) F.entry_enumerate_new (meets_en1 B) ⟨h1, ?_⟩
  have hz : (s.heap.push o).objs.size = s.heap.objs.size + 1 := Heap.size_push ..
  show _ ∧ _
  rw [hz]
  have he : IsEnum ((s.heap.push o).push { cls := .type "enumerate", data := .fields #[.none, .bool false, .ref s.heap.objs.size, rawInt 0, .none, .none] }) (s.heap.objs.size + 1) s.heap.objs.size 0 .none := by
    have q := Heap.get?_push_size (s.heap.push o) (o := { cls := .type "enumerate", data := .fields #[.none, .bool false, .ref s.heap.objs.size, rawInt 0, .none, .none] }) rfl
    rw [hz] at q; exact q
  exact ⟨⟨_, he, rfl⟩, h _ he (Heap.get?_push_of_some _ (Heap.get?_push_size _ B.free)) fun b o x => Heap.get?_push_of_some _ (Heap.get?_push_of_some _ x)⟩
def iEn (K : PySem.W.Frag) (ta : TA) : TI := fun σ H R => ta σ H fun vs H1 => ∃ k a xs, vs = [.ref a] ∧ SqK k K H1 a xs ∧ R (ItEn k K a) H1
theorem pi_en {X : Cx} {e : Expr} {ta : TA} {p pos tpos : Pos} {elts : List Expr} {kk : Nat} (hg : Gl X "enumerate") (hm : X.mg "enumerate" = none) (ha : PA X [e] ta) (hs : starEach [e] X.env = [(false, eval e X.env)] := by rfl) :
    PI X (.Tuple elts kk tpos) (.Call (.Name "enumerate" p) [e] [] pos) (iEn X.K ta) := by
  refine ⟨fun pins s σ H R I h => ?_⟩
  refine Call_ (ld_blt I hg hm boot_enumerate (PyProof.Rows.callWith_type1 (thn (ha.run pos pins s σ H _ I h) fun us s1 ⟨vs, H1, I1, r1, k, a, xs, ex, hq, q⟩ => ?_) hs rfl))
  subst ex
  cases r1 with
  | cons r rr =>
    cases rr
    cases r
    obtain ⟨its, rv, p'⟩ := Inv.sqK I1 hq
    have al := p'.lt
    refine call_en1 (beginsK k a its.toArray) p' fun h' hen hit hk => wpAny_pyIter_enum hen ?_
    have I2 : Inv X pins σ H1 { s1 with heap := h' } := I1.kept (t' := s1.toks) hk
    refine ⟨s1.heap.objs.size + 1, [s1.heap.objs.size + 1, s1.heap.objs.size], _, _, H1, rfl, I2, turnEn k a (s1.heap.objs.size + 1) s1.heap.objs.size, ⟨⟨.none, hen⟩, IsKi.new hit, Nat.succ_ne_self _, Nat.ne_of_lt al, Nat.ne_of_lt (Nat.lt_succ_of_lt al)⟩, fun b hb => ?_, q⟩
    have z : b = s1.heap.objs.size + 1 ∨ b = s1.heap.objs.size := by simpa using hb
    have hle : s1.heap.objs.size ≤ b := by
      rcases z with z | z
      · rw [z]; exact Nat.le_add_right _ _
      · rw [z]; exact Nat.le_refl _
    exact I1.fpOk hle (I1.hok.fresh hle)

/-! ### zip of two -/
/-- what stands at a and b, the items in new pairs -/
def ItZp (k l : Bool) (K : PySem.W.Frag) (a b : Addr) : It :=
  ⟨fun i H => ∃ (xs ys : List V) (x y : V), SqK k K H a xs ∧ SqK l K H b ys ∧ xs[i]? = some x ∧ ys[i]? = some y,
    fun i H v H' => ∃ T x y, v = .ref T ∧ H T = none ∧ H' = upd H T (.tup [x, y]) ∧ (∀ xs, SqK k K H a xs → xs[i]? = some x) ∧ ∀ ys, SqK l K H b ys → ys[i]? = some y,
    fun i H => ∃ xs ys : List V, SqK k K H a xs ∧ SqK l K H b ys ∧ i ≤ xs.length ∧ i ≤ ys.length ∧ (i = xs.length ∨ i = ys.length)⟩
theorem turnZp {P : Program} {w : World} {K : PySem.W.Frag} {elts : List Expr} {kk : Nat} {tpos : Pos} (k l : Bool) {a b z TI TO i1 i2 : Addr} (D : ZipSep2 z TI TO i1 i2 [i1, a] [i2, b]) (na : a ≠ i1) (nb : b ≠ i2) :
    Turn P w K (.Tuple elts kk tpos) (ItZp k l K a b) [z, TI, TO, i1, i2] z (fun i h => IsZip h z TI TO .none ∧ IsTupOf2 h TI (.ref i1) (.ref i2) ∧ (∃ x y, IsTupOf2 h TO x y) ∧ IsKi k h i1 a i ∧ IsKi l h i2 b i) where
  mem := by simp
  obj := fun i h st c hc => by
    obtain ⟨hz, hTI, ⟨x, y, hTO⟩, h1, h2⟩ := st
    have e' : c = z ∨ c = TI ∨ c = TO ∨ c = i1 ∨ c = i2 := by simpa using hc
    rcases e' with q | q | q | q | q
    · subst q; exact ⟨_, hz, fun v q => nomatch q⟩
    · subst q; exact ⟨_, hTI, fun v q => nomatch q⟩
    · subst q; exact ⟨_, hTO, fun v q => nomatch q⟩
    · subst q; exact h1.obj
    · subst q; exact h2.obj
  keep := fun i h h' st q => by
    obtain ⟨hz, hTI, ⟨x, y, hTO⟩, h1, h2⟩ := st
    exact ⟨q z (by simp) _ hz, q TI (by simp) _ hTI, ⟨x, y, q TO (by simp) _ hTO⟩, h1.at fun o e => q i1 (by simp) o e, h2.at fun o e => q i2 (by simp) o e⟩
  item := by
    intro X hP hw hK hc i pins s σ H E I hf st hg
    subst hP hw hK
    obtain ⟨hz, hTI, ⟨x0, y0, hTO⟩, h1, h2⟩ := st
    obtain ⟨xs, ys, x, y, qx, qy, hx, hy⟩ := hg
    obtain ⟨its, rv, p1⟩ := Inv.sqK I qx
    obtain ⟨jts, rw', p2⟩ := Inv.sqK I qy
    have ll1 : i < its.toArray.size := by
      have := (List.getElem?_eq_some_iff.mp hx).1
      rw [rv.length] at this
      simpa using this
    have ll2 : i < jts.toArray.size := by
      have := (List.getElem?_eq_some_iff.mp hy).1
      rw [rw'.length] at this
      simpa using this
    refine wpAny_pyNext_zipD2_item D (drawsK (prog := X.prog) (w := X.w) (A := X.A.in1) (I.ok.hd hc) k i1 a na its.toArray) (drawsK (prog := X.prog) (w := X.w) (A := X.A.in1) (I.ok.hd hc) l i2 b nb jts.toArray) hz hTI hTO ⟨h1, p1⟩ ⟨h2, p2⟩ ll1 ll2 fun u1 u2 h3 tk y1 y2 z3 TO3 st1 st2 hT hsz hk => ?_
    have hu1 : its[i]? = some u1 := by simpa using y1
    have hu2 : jts[i]? = some u2 := by simpa using y2
    obtain ⟨x', hx', ru1⟩ := vals_get rv hu1
    rw [hx] at hx'; cases hx'
    obtain ⟨y', hy', ru2⟩ := vals_get rw' hu2
    rw [hy] at hy'; cases hy'
    have hzl : z < s.heap.objs.size := Heap.lt_size hz
    refine ⟨_, rfl, wpAny_letOwnedTupleGo_zip (s := { s with heap := h3, toks := tk }) z3 fun h4 z4 sb => ?_⟩
    have hT4 : h4.get? s.heap.objs.size = some { cls := .type "tuple", data := .seq #[u1, u2] } := (sb.2 _ (Nat.ne_of_gt hzl)).trans hT
    have new : ObjOk X.prog X.w (upd H s.heap.objs.size (.tup [x, y])) h4 s.heap.objs.size (.tup [x, y]) := ⟨by show 2 ≤ sizeLine; decide, [u1, u2], .cons ru1 (.cons ru2 .nil), ⟨_, hT4, rfl, _, rfl⟩⟩
    have I1 : Inv X pins σ (upd H s.heap.objs.size (.tup [x, y])) { s with heap := h4, toks := tk } :=
      I.turnedNew (t' := tk) (ch := [z, TI, TO, i1, i2]) (fun c o hb q => (sb.2 c (by intro e; apply hb; simp [e])).trans (hk c o (by intro e; apply hb; simp [e]) (by intro e; apply hb; simp [e]) (by intro e; apply hb; simp [e]) (by intro e; apply hb; simp [e]) q)) hf (Nat.le_refl _) new
    have i1z : i1 ≠ z := Ne.symm D.zi1
    have i2z : i2 ≠ z := Ne.symm D.zi2
    refine ⟨.ref s.heap.objs.size, _, I1, rfl, ⟨_, x, y, rfl, I.hok.fresh (Nat.le_refl _), rfl, fun l hl => by rw [Inv.sqK_inj I hl qx]; exact hx, fun l hl => by rw [Inv.sqK_inj I hl qy]; exact hy⟩, ⟨z4, ?_, ⟨u1, u2, ?_⟩, ?_, ?_⟩, fun c hcm => ?_⟩
    · exact (sb.2 _ D.TIz).trans (hk _ _ D.TIz D.TITO D.TIi1 D.TIi2 hTI)
    · exact (sb.2 _ D.TOz).trans TO3
    · exact st1.1.at fun o q => (sb.2 _ i1z).trans q
    · exact st2.1.at fun o q => (sb.2 _ i2z).trans q
    · have hlt : c < s.heap.objs.size := by
        have e' : c = z ∨ c = TI ∨ c = TO ∨ c = i1 ∨ c = i2 := by simpa using hcm
        rcases e' with q | q | q | q | q
        · subst q; exact hzl
        · subst q; exact Heap.lt_size hTI
        · subst q; exact Heap.lt_size hTO
        · subst q; obtain ⟨_, e1, _⟩ := h1.obj; exact Heap.lt_size e1
        · subst q; obtain ⟨_, e2, _⟩ := h2.obj; exact Heap.lt_size e2
      rw [upd_ne (Nat.ne_of_lt hlt)]
      exact (hf c hcm).1
  done := by
    intro X hP hw hK hc i pins s σ H E I hf st hg
    subst hP hw hK
    obtain ⟨hz, hTI, ⟨x0, y0, hTO⟩, h1, h2⟩ := st
    obtain ⟨xs, ys, qx, qy, e1, e2, e3⟩ := hg
    obtain ⟨its, rv, p1⟩ := Inv.sqK I qx
    obtain ⟨jts, rw', p2⟩ := Inv.sqK I qy
    have l1 : xs.length = its.toArray.size := by rw [rv.length]; simp
    have l2 : ys.length = jts.toArray.size := by rw [rw'.length]; simp
    exact wpAny_pyNext_zipD2_end D (drawsK (prog := X.prog) (w := X.w) (A := X.A.in1) (I.ok.hd hc) k i1 a na its.toArray) (drawsK (prog := X.prog) (w := X.w) (A := X.A.in1) (I.ok.hd hc) l i2 b nb jts.toArray) hz hTI hTO ⟨h1, p1⟩ ⟨h2, p2⟩ (by rw [← l1]; exact e1) (by rw [← l2]; exact e2) (by rw [← l1, ← l2]; exact e3) fun h' tk hk => ⟨rfl, I.turnedL (t' := tk) (ch := [z, TI, TO, i1, i2]) (fun c o hb q =>
      hk c o (by intro e; apply hb; simp [e]) (by intro e; apply hb; simp [e]) (by intro e; apply hb; simp [e]) (by intro e; apply hb; simp [e]) q) hf⟩
  self := fun A i s Q E st h => wpAny_pyIter_zip st.1 h
def iZp (K : PySem.W.Frag) (ta : TA) : TI := fun σ H R => ta σ H fun vs H1 => ∃ k l a b xs ys, vs = [.ref a, .ref b] ∧ SqK k K H1 a xs ∧ SqK l K H1 b ys ∧ R (ItZp k l K a b) H1
theorem pi_zp {X : Cx} {e e2 : Expr} {ta : TA} {p pos tpos : Pos} {elts : List Expr} {kk : Nat} (hg : Gl X "zip") (hm : X.mg "zip" = none) (ha : PA X [e, e2] ta)
    (hs : starEach [e, e2] X.env = (false, eval e X.env) :: starEach [e2] X.env := by rfl) (hpl : (backTo pos (starEach [e2] X.env)).any (·.1) = false := by rfl) : PI X (.Tuple elts kk tpos) (.Call (.Name "zip" p) [e, e2] [] pos) (iZp X.K ta) := by
  refine ⟨fun pins s σ H R I h => ?_⟩
  refine Call_ (ld_blt I hg hm PyProof.Rows.boot_zip (PyProof.Rows.callWith_type1 (thn (ha.run pos pins s σ H _ I h) fun us s1 ⟨vs, H1, I1, r1, k, l, a, b, xs, ys, ex, qx, qy, q⟩ => ?_) hs hpl))
  subst ex
  cases r1 with
  | cons r rr =>
    cases rr with
    | cons r' rr =>
      cases rr
      cases r
      cases r'
      obtain ⟨its, rv, p1⟩ := Inv.sqK I1 qx
      obtain ⟨jts, rw', p2⟩ := Inv.sqK I1 qy
      have la := p1.lt
      have lb := p2.lt
      refine zip_begins2 (beginsK k a its.toArray) (beginsK l b jts.toArray) p1 p2 fun h' hz hTI hTO g1 g2 hsz hk => wpAny_pyIter_zip hz ?_
      have I2 : Inv X pins σ H1 { s1 with heap := h' } := I1.kept (t' := s1.toks) hk
      have D := zip_sep2 (N := s1.heap.objs.size) (fp1 := [a]) (fp2 := [b]) (by simpa using la) (by simpa using lb)
      refine ⟨s1.heap.objs.size + 4, [s1.heap.objs.size + 4, s1.heap.objs.size + 2, s1.heap.objs.size + 3, s1.heap.objs.size, s1.heap.objs.size + 1], _, _, H1, rfl, I2, turnZp k l D (Nat.ne_of_lt la) (Nat.ne_of_lt (Nat.lt_succ_of_lt lb)), ⟨hz, hTI, ⟨_, _, hTO⟩, IsKi.new g1, IsKi.new g2⟩, fun c hcm => ?_, q⟩
      have hle : s1.heap.objs.size ≤ c := by
        have e' : c = s1.heap.objs.size + 4 ∨ c = s1.heap.objs.size + 2 ∨ c = s1.heap.objs.size + 3 ∨ c = s1.heap.objs.size ∨ c = s1.heap.objs.size + 1 := by simpa using hcm
        rcases e' with z | z | z | z | z
        · rw [z]; exact Nat.le_add_right _ _
        · rw [z]; exact Nat.le_add_right _ _
        · rw [z]; exact Nat.le_add_right _ _
        · rw [z]; exact Nat.le_refl _
        · rw [z]; exact Nat.le_add_right _ _
      exact I1.fpOk hle (I1.hok.fresh hle)

/-! ### by data -/
def seqD : D → Option (List D)
  | .lst ds => some ds
  | .tup ds => some ds
  | .scr ns => some (ns.map D.int)
  | _ => none
theorem seqD_ok {K : PySem.W.Frag} {cl : Cw} {G : Hp} {v : V} {d : D} {ds : List D} (r : Rep K cl G v d) (e : seqD d = some ds) : ∃ k a xs, v = .ref a ∧ SqK k K G a xs ∧ RepL K cl G xs ds := by
  cases r with
  | @lst a xs ds h1 h2 => cases e; exact ⟨false, a, xs, rfl, .inl (.inl h1), h2⟩
  | @tup a xs ds h1 h2 => cases e; exact ⟨true, a, xs, rfl, .inl (.inl h1), h2⟩
  | @scr a ns h1 => cases e; exact ⟨false, a, _, rfl, h1, RepL.of_ints ns⟩
  | _ => cases e
def enumD (n : Nat) : List D → List D
  | [] => []
  | d :: ds => .tup [.int (n : Int), d] :: enumD (n + 1) ds
theorem enumD_at : ∀ (ds : List D) (n i : Nat), (enumD n ds)[i]? = (ds[i]?).map fun d => .tup [.int ((n + i : Nat) : Int), d]
  | [], n, i => rfl
  | d :: ds, n, 0 => rfl
  | d :: ds, n, i + 1 => by
    show (enumD (n + 1) ds)[i]? = _
    rw [enumD_at ds (n + 1) i]
    show _ = (ds[i]?).map _
    rw [show n + 1 + i = n + (i + 1) by omega]
def dEn (fe : DE) : DI := fun δ => (fe δ).bind fun d δ1 => match seqD d with
  | some ds => .ok (enumD 0 ds) δ1
  | none => .st
theorem walkEn {k : Bool} {K : PySem.W.Frag} {cl : Cw} {G : Hp} {a : Addr} {xs : List V} {ds : List D} (h : SqK k K G a xs) (r : RepL K cl G xs ds) : WalkOk K cl G (ItEn k K a) (enumD 0 ds) := fun H2 G2 s s2 i => by
  have hq : SqK k K H2 a xs := (s.trans s2).sqK h
  refine ⟨fun d e => ?_, fun e => ⟨xs, hq, ?_⟩⟩
  · rw [enumD_at, Option.map_eq_some_iff] at e
    obtain ⟨d0, e0, rfl⟩ := e
    obtain ⟨v, hv, rv⟩ := r.get e0
    refine ⟨⟨xs, v, hq, hv⟩, fun x H' y => ?_⟩
    obtain ⟨T, x', rfl, nT, rfl, f⟩ := y
    have z := f xs hq
    rw [hv] at z; cases z
    have gr := Grow.froze s2 nT (.tup [.int (i : Nat), v])
    refine ⟨_, gr, .tup upd_same (.cons ?_ (.cons (rv.mono (s.trans gr.gk)) .nil))⟩
    rw [Nat.zero_add]
    exact .int _
  · rw [r.length, e]
    have : (enumD 0 ds).length = ds.length := by
      have go : ∀ (ds : List D) n, (enumD n ds).length = ds.length := fun ds => by
        induction ds with
        | nil => intro n; rfl
        | cons d ds ih => intro n; exact congrArg (· + 1) (ih (n + 1))
      exact go ds 0
    exact this.symm
def zipD : List D → List D → List D
  | d :: ds, e :: es => .tup [d, e] :: zipD ds es
  | _, _ => []
theorem zipD_at : ∀ (ds es : List D) (i : Nat) (z : D), (zipD ds es)[i]? = some z → ∃ d e, ds[i]? = some d ∧ es[i]? = some e ∧ z = .tup [d, e]
  | [], es, i, z, h => by cases es <;> simp [zipD] at h
  | _ :: _, [], i, z, h => by simp [zipD] at h
  | d :: ds, e :: es, 0, z, h => by simp [zipD] at h; exact ⟨d, e, rfl, rfl, h.symm⟩
  | d :: ds, e :: es, i + 1, z, h => zipD_at ds es i z (by simpa [zipD] using h)
theorem zipD_len : ∀ (ds es : List D), (zipD ds es).length = min ds.length es.length
  | [], es => by cases es <;> simp [zipD]
  | _ :: _, [] => by simp [zipD]
  | d :: ds, e :: es => by simp [zipD, zipD_len ds es]
def dZp (fa fb : DE) : DI := fun δ => (fa δ).bind fun x δ1 => (fb δ1).bind fun y δ2 => match seqD x, seqD y with
  | some ds, some es => .ok (zipD ds es) δ2
  | _, _ => .st
theorem walkZp {k l : Bool} {K : PySem.W.Frag} {cl : Cw} {G : Hp} {a b : Addr} {xs ys : List V} {ds es : List D} (h : SqK k K G a xs) (h' : SqK l K G b ys) (r : RepL K cl G xs ds) (r' : RepL K cl G ys es) : WalkOk K cl G (ItZp k l K a b) (zipD ds es) := fun H2 G2 s s2 i => by
  have hq : SqK k K H2 a xs := (s.trans s2).sqK h
  have hq' : SqK l K H2 b ys := (s.trans s2).sqK h'
  refine ⟨fun d e => ?_, fun e => ⟨xs, ys, hq, hq', ?_⟩⟩
  · obtain ⟨d0, d1, e0, e1, rfl⟩ := zipD_at ds es i d e
    obtain ⟨v, hv, rv⟩ := r.get e0
    obtain ⟨u, hu, ru⟩ := r'.get e1
    refine ⟨⟨xs, ys, v, u, hq, hq', hv, hu⟩, fun x H' y => ?_⟩
    obtain ⟨T, x1, y1, rfl, nT, rfl, f, f'⟩ := y
    have z := f xs hq
    rw [hv] at z; cases z
    have z := f' ys hq'
    rw [hu] at z; cases z
    have gr := Grow.froze s2 nT (.tup [v, u])
    exact ⟨_, gr, .tup upd_same (.cons (rv.mono (s.trans gr.gk)) (.cons (ru.mono (s.trans gr.gk)) .nil))⟩
  · rw [r.length, r'.length]
    rw [zipD_len] at e
    omega
section
variable {c : Cf} {X : Cx} {e e2 : Expr} {fa fb : DE} {p pos tpos : Pos} {elts : List Expr} {kk : Nat}
theorem ji_en (hg : Gl X "enumerate") (hm : X.mg "enumerate" = none) (ha : JE c X e fa) (hs : starEach [e] X.env = [(false, eval e X.env)] := by rfl) : JI c X (.Tuple elts kk tpos) (.Call (.Name "enumerate" p) [e] [] pos) (dEn fa) := by
  refine ji_of (pi_en hg hm (pa_cons (peS X e) pa_nil hs) hs) fun R H0 G0 H G σ δ Q k h => ?_
  refine ha R H0 G0 H G σ δ _ k (EPost.imp (EPost.bind h) fun x H1 ⟨G1, d, δ1, s1, k1, r1, h1⟩ => ?_)
  cases q : seqD d with
  | none => simp only [q] at h1; exact h1.elim
  | some ds =>
    simp only [q] at h1
    obtain ⟨kd, a, xs, rfl, sq, rl⟩ := seqD_ok r1 q
    exact ⟨kd, a, xs, rfl, k1.sub.sqK sq, h1 _ H1 G1 (.refl G1) k1 (walkEn sq rl)⟩
theorem ji_zp (hg : Gl X "zip") (hm : X.mg "zip" = none) (ha : JE c X e fa) (hb : JE c X e2 fb)
    (hs : starEach [e, e2] X.env = (false, eval e X.env) :: starEach [e2] X.env := by rfl) (hs2 : starEach [e2] X.env = [(false, eval e2 X.env)] := by rfl) (hpl : (backTo pos (starEach [e2] X.env)).any (·.1) = false := by rfl) : JI c X (.Tuple elts kk tpos) (.Call (.Name "zip" p) [e, e2] [] pos) (dZp fa fb) := by
  refine ji_of (pi_zp hg hm (pa_cons (peS X e) (pa_cons (peS X e2) pa_nil hs2) hs) hs hpl) fun R H0 G0 H G σ δ Q k h => ?_
  refine ha R H0 G0 H G σ δ _ k (EPost.imp (EPost.bind h) fun x H1 ⟨G1, d, δ1, s1, k1, r1, h1⟩ => ?_)
  refine hb R H0 G0 H1 G1 σ δ1 _ k1 (EPost.imp (EPost.bind h1) fun y H2 ⟨G2, d2, δ2, s2, k2, r2, h2⟩ => ?_)
  cases q : seqD d with
  | none => simp only [q] at h2; exact h2.elim
  | some ds =>
    cases q2 : seqD d2 with
    | none => simp only [q, q2] at h2; exact h2.elim
    | some es =>
      simp only [q, q2] at h2
      obtain ⟨k1', a, xs, rfl, sq, rl⟩ := seqD_ok (Rep.mono s2 r1) q
      obtain ⟨k2', b, ys, rfl, sq', rl'⟩ := seqD_ok r2 q2
      exact ⟨k1', k2', a, b, xs, ys, rfl, k2.sub.sqK sq, k2.sub.sqK sq', h2 _ H2 G2 (.refl G2) k2 (walkZp sq sq' rl rl')⟩

/-! ### what is never come to -/
theorem je_st {c : Cf} {X : Cx} {e : Expr} : JE c X e (fun _ => .st) := fun R H0 G0 H G σ δ Q k h => h.elim
theorem jt_st {c : Cf} {X : Cx} {e : Expr} : JT c X e (fun _ => .st) := fun R H0 G0 H G σ δ Q k h => h.elim
theorem js_st {c : Cf} {X : Cx} {st : Stmt} : JS c X st (fun _ => .st) := fun R H0 G0 H G σ δ D' k h => h.elim

/-! ### list(range(..)), tuple(range(..)) -/
def dRgL (fa : DE) : DE := fun δ => (fa δ).bind fun x δ1 => match x with
  | .int j => if 0 ≤ j ∧ j ≤ 16777216 then .ok (.lst (rngD 0 j)) δ1 else .st
  | _ => .st
theorem repL_rng {K : PySem.W.Frag} {cl : Cw} {G : Hp} (lo : Int) : ∀ (l : List Nat), RepL K cl G (l.map fun i => V.int (lo + (i : Nat))) (l.map fun i => D.int (lo + (i : Nat)))
  | [] => .nil
  | i :: l => .cons (.int _) (repL_rng lo l)
theorem jf_listRg {a : Expr} {pp ppos : Pos} (hc : X.calm = true) (hg : Gl X "list") (hm : X.mg "list" = none) (hg2 : Gl X "range") (hm2 : X.mg "range" = none) (ha : JE c X a fa) (na : starEach [a] X.env = (false, eval a X.env) :: starEach [] X.env := by rfl)
    (na2 : starEach [.Call (.Name "range" pp) [a] [] ppos] X.env = (false, eval (.Call (.Name "range" pp) [a] [] ppos) X.env) :: starEach [] X.env := by rfl) :
    JF c X (.Call (.Name "list" p) [.Call (.Name "range" pp) [a] [] ppos] [] pos) (dRgL fa) := fun R H0 G0 H G σ δ Q k h pins s I => by
  refine (pe_listRg hc hg hm (prg_1 hg2 hm2 (peS X a) na) na2).run pins s σ H Q I ?_
  refine ha R H0 G0 H G σ δ _ k (EPost.imp (FPost.bind (rel := fun _ _ _ => True) h) fun x H1 ⟨G1, d, δ1, s1, k1, r1, h1⟩ => ?_)
  cases r1 with
  | int j =>
    by_cases hj : 0 ≤ j ∧ j ≤ 16777216
    · simp only [if_pos hj] at h1
      refine ⟨j, rfl, RgOk.of_le (Int.le_refl 0) hj.2 (by decide) hj.1, fun q nq => ?_⟩
      have gr := Grow.fresh k1.sub nq (.lst (rgV 0 j))
      exact h1 q _ _ gr.gk (k1.grow gr) (k1.freshG nq) (k1.freshH0 nq) ⟨_, upd_same, repL_rng 0 _⟩ fun j t e o' => k1.freshSl nq e o'
    · simp only [if_neg hj] at h1; exact h1.elim
  | _ => exact h1.elim
end
end DL

set_option maxRecDepth 100000
set_option maxHeartbeats 4000000
namespace DL
open PySem PySem.Spec PyProof.Rows L2
/-- a def that may be called: n values are written, the data dds fill up -/
def Cal (P : Program) (w : World) (K : PySem.W.Frag) (mg : Str → Option Value) (base : Heap) (cl : Cw) (k : Nat) (x : Str) (ks : List Bool) (fn : List D → FO) (dds : List D) : Prop :=
  ∃ f fd ps ds dvs, DefOk P w K mg base cl k x ks fn f fd ps ∧ Binds K fd ps ds ∧ Vals dvs ds ∧ ∀ G, RepL K cl G dvs dds
section
variable {P : Program} {w : World} {K : PySem.W.Frag} {mg : Str → Option Value} {base : Heap} {cl : Cw} {j k : Nat} {x : Str} {ks : List Bool} {fn : List D → FO} {dds : List D}
theorem Cal.mono (c : Cal P w K mg base cl j x ks fn dds) (h : j ≤ k) : Cal P w K mg base cl k x ks fn dds := by
  obtain ⟨f, fd, ps, ds, dvs, h1, h2⟩ := c
  exact ⟨f, fd, ps, ds, dvs, h1.mono h, h2⟩
end
section
variable {c : Cf} {X : Cx} {e : Expr} {es : List Expr} {fs : DA} {p pos : Pos} {k : Nat} {x : Str} {ks : List Bool} {fn : List D → FO} {dds : List D}
theorem je_callC (C : Cal X.prog X.w X.K X.mg X.base c.cl k x ks fn dds) (hr : Room k X.A) (tk : Takes X c.W) (ha : JA c X (e :: es) fs) (hg : Gl X x := by rfl)
    (hdb : (x == ("__debug__" : Str)) = false := by decide) (he : starEach (e :: es) X.env = (false, eval e X.env) :: starEach es X.env := by rfl) (hpl : (backTo pos (starEach es X.env)).any (·.1) = false := by rfl) :
    JE c X (.Call (.Name x p) (e :: es) [] pos) (dCall ks dds fn fs) := by
  obtain ⟨f, fd, ps, ds, dvs, h1, h2, h3, h4⟩ := C
  exact je_call h1 hr tk hg h2 h3 h4 ha hdb he hpl
theorem jf_callC (C : Cal X.prog X.w X.K X.mg X.base c.cl k x ks fn dds) (hr : Room k X.A) (tk : Takes X c.W) (ha : JA c X (e :: es) fs) (hg : Gl X x := by rfl)
    (hdb : (x == ("__debug__" : Str)) = false := by decide) (he : starEach (e :: es) X.env = (false, eval e X.env) :: starEach es X.env := by rfl) (hpl : (backTo pos (starEach es X.env)).any (·.1) = false := by rfl) :
    JF c X (.Call (.Name x p) (e :: es) [] pos) (dCallO ks dds fn fs) := by
  obtain ⟨f, fd, ps, ds, dvs, h1, h2, h3, h4⟩ := C
  exact jf_call h1 hr tk hg h2 h3 h4 ha hdb he hpl
theorem je_callC0 (C : Cal X.prog X.w X.K X.mg X.base c.cl k x ks fn dds) (hr : Room k X.A) (tk : Takes X c.W) (hg : Gl X x := by rfl) (hdb : (x == ("__debug__" : Str)) = false := by decide) :
    JE c X (.Call (.Name x p) [] [] pos) (dCall ks dds fn dNil) := by
  obtain ⟨f, fd, ps, ds, dvs, h1, h2, h3, h4⟩ := C
  exact je_call0 h1 hr tk hg h2 h3 h4 hdb
theorem pe_tyn {T : Str} {T' : String} (hm : X.mg T = none) (hv : bootBuiltins T = some (.type T')) (hn : T ≠ "__name__" := by decide) (hg : Gl X T := by rfl) (hd : (T == ("__debug__" : Str)) = false := by decide) : PE X (.Name T p) (tC (.ty T')) := pe_bltn (v := .ty T') hg hm hv rfl hn hd
theorem je_gint {i : Int} (h : ∃ t, X.mg x = some (.int i t)) (hg : Gl X x := by rfl) (hd : (x == ("__debug__" : Str)) = false := by decide) : JE c X (.Name x p) (dC (.int i)) := by
  obtain ⟨t, h⟩ := h
  exact je_c (pe_glob (v := .int i) hg h ⟨t, rfl⟩ hd) fun _ => .int i
end
/-- the law's def over a head by facts; what leaves it may hang on the world -/
theorem walk_ofW {l : PySem.W.OpenLaw} {n k : Nat} {q : Program} {loose : List Str} {XP : (Str → Option Value) → Heap → Prop} {YP : World → Heap → Prop} {d : DefRec} {C' : World → CXT} {x : Str} (hn : l.most = some n) (hn2 : n ≤ sizeLine) (hdf : d.params.defaults = []) (hr : Room k callerA)
    (F : ∀ (w : World) (mg : Str → Option Value) (fa : Addr) (h : Heap), YP w h → h.Ns mainGlobals mg → mg d.name = some (.ref fa) → ∃ (K : PySem.W.Frag) (fd : FuncData) (sp : Sp), K.In h ∧ (∀ (s : Shared) (u : Value), BindsTo s fd ⟨[u], []⟩ [(x, u)]) ∧
        (∀ (H : Hp) (a : Addr) (ns : List Int), ns.length ≤ n → Only H → SqL K H a (ns.map V.int) → sp [.ref a] H (fun v _ => v = .bl true) fun _ _ _ => False) ∧ ∀ base : Heap, K.In base → base.Ns mainGlobals mg → FnOk l.prog w K mg base (C' w) k fa fd [x] sp)
    (hC : ∀ (w : World) (H : Hp) (s : Shared) (e : Value) (s' : Shared), C' w [] H s (fun _ _ _ => False) e s' → False) : PySem.W.WalkO q loose XP YP l.row.toRowW d [] (fun f vs => PySem.call f vs) := by
  refine Att.attach_call hn hdf fun w s₀ s₁ mg mb fa o pm cd doc a vs ns G Y ho hd hcd hmg hobj hints hlen hg => ?_
  obtain ⟨K, fd, sp, X1, hb, hsp, hF⟩ := F w mg fa _ Y G.T.g hmg
  exact law_call X1 G.T.g G.T.b G.T.builtins G.T.nolimit hg hobj hints (Nat.le_trans hlen hn2) hr hF hb (fun H hO hS => hsp H a ns hlen hO hS) fun H e s' => hC w H s₁ e s'
/-- the end by facts -/
theorem end_ofW {l : PySem.W.OpenLaw} {k : Nat} {q : Program} {loose : List Str} {XP : (Str → Option Value) → Heap → Prop} {YP : World → Heap → Prop} {d : DefRec} {x : Str} (hn : l.most = some 63) (hdf : d.params.defaults = []) (hr : Room k callerA)
    (F : ∀ (w : World) (mg : Str → Option Value) (fa : Addr) (h : Heap), YP w h → h.Ns mainGlobals mg → mg d.name = some (.ref fa) → ∃ (K : PySem.W.Frag) (fd : FuncData), K.In h ∧ (∀ (s : Shared) (u : Value), BindsTo s fd ⟨[u], []⟩ [(x, u)]) ∧
        ∀ base : Heap, K.In base → base.Ns mainGlobals mg → FnOk l.prog w K mg base (L2.CX l.prog w) k fa fd [x] (spTrue K)) : PySem.W.WalkO q loose XP YP l.row.toRowW d [] (fun f vs => PySem.call f vs) := by
  refine walk_ofW (x := x) (C' := fun w => L2.CX l.prog w) hn (by decide) hdf hr (fun w mg fa h Y G e => ?_) fun _ _ _ _ _ z => cx_none z
  obtain ⟨K, fd, h1, h2, h3⟩ := F w mg fa h Y G e
  exact ⟨K, fd, spTrue K, h1, h2, fun H a ns hl _ hS => ⟨a, ns, rfl, hS, hl, fun _ => rfl⟩, h3⟩
end DL

set_option maxRecDepth 100000
set_option maxHeartbeats 4000000
namespace DL
open PySem PySem.Spec PyProof.Rows L2
section
variable {c : Cf} {X : Cx} {x : Str} {p pos : Pos}
theorem js_raiseC (T : ∃ C, ExcC X.K X.mg c.cl x C) (tk : Takes X c.W) {p' : Pos} (hc : X.calm = true := by rfl) (hg : Gl X x := by rfl) (hdb : (x == ("__debug__" : Str)) = false := by decide) : JS c X (.Raise (some (.Call (.Name x p) [] [] p')) none pos) (fun δ => .ex x [] [] δ) := by
  obtain ⟨C, T⟩ := T
  exact js_raise0' T hc tk hg hdb
theorem hdsC {y : Str} {b₀ : Stmt} {suite : List Stmt} {np pos' : Pos} {hds : List ExceptHandler} {hs : List (Str × DS)} {f : DS} (T : ∃ C, ExcC X.K X.mg c.cl y C)
    (hsu : ∀ (C : Addr) (a : Addr) (oe : Obj) (cls : Value) (d : Option Addr) (pn : List (Addr × Obj)), JSs ⟨fun _ _ _ _ => False, c.cl, c.hx⟩ (X.suite a ((a, oe) :: pn)) (b₀ :: suite) f) (r : ∃ l, HdsD c X hds hs l) (hg : Gl X y := by rfl) (hdb : (y == ("__debug__" : Str)) = false := by decide) :
    ∃ l, HdsD c X (.ExceptHandler (some (.Name y np)) none (b₀ :: suite) pos' :: hds) ((y, f) :: hs) l := by
  obtain ⟨C, T⟩ := T
  obtain ⟨l, r⟩ := r
  exact ⟨_, .cons ⟨hg, hdb, .inl T.gC⟩ T.cl (fun a oe cls d pn _ => hsu C a oe cls d pn) r⟩
theorem hdsN : ∃ l, HdsD c X [] [] l := ⟨_, .nil⟩
theorem js_tryC {tab : Str → Str → Option Bool} (ht : ExmTab X.K c.cl tab) {body : List Stmt} {h₀ : ExceptHandler} {hds : List ExceptHandler} {hs : List (Str × DS)} {f : DS}
    (hst : X.stack = X.env :: X.outer) (hfr : X.env.frame = some X.env.locals) (tk : Takes X c.W)
    (hb : ∀ (W : WX) (pn : List (Addr × Obj)) (xe : Value → Shared → Prop), Takes (X.tr pn xe) W → PassesOwn (model X.prog X.w) X.A X.env xe → JSs ⟨W, c.cl, c.hx⟩ (X.tr pn xe) body f)
    (hh : ∃ l, HdsD c X (h₀ :: hds) hs l) : JS c X (.Try body (h₀ :: hds) [] [] pos) (sTry tab f hs) := by
  obtain ⟨l, hh⟩ := hh
  exact js_try ht hst hfr tk hb hh
end
/-! ### written lists -/
def cexp : Expr → Option (V × D)
  | .Constant (.int i) _ _ => some (.int i, .int i)
  | .Constant (.bool i) _ _ => some (.bl i, .bl i)
  | .Constant .none _ _ => some (.non, .non)
  | .Constant (.str i) _ _ => some (.str i, .str i)
  | _ => none
def cexps : List Expr → Option (List (V × D))
  | [] => some []
  | e :: es => (cexp e).bind fun d => (cexps es).map fun ds => d :: ds
section
variable {c : Cf} {X : Cx} {pos : Pos}
theorem cexp_ok {e : Expr} {v : V} {d : D} (h : cexp e = some (v, d)) : PE X e (tC v) ∧ (∀ K cl G, Rep K cl G v d) ∧ ∀ (es : List Expr), starEach (e :: es) X.env = (false, eval e X.env) :: starEach es X.env := by
  cases e with
  | Constant k j p =>
    cases k with
    | int i => cases h; exact ⟨pe_int, fun _ _ _ => .int i, fun es => rfl⟩
    | bool i => cases h; exact ⟨pe_bl, fun _ _ _ => .bl i, fun es => rfl⟩
    | none => cases h; exact ⟨pe_non, fun _ _ _ => .non, fun es => rfl⟩
    | str i => cases h; exact ⟨pe_str, fun _ _ _ => .str i, fun es => rfl⟩
    | _ => cases h
  | _ => cases h
theorem ja_consts : ∀ {es : List Expr} {ds : List (V × D)}, cexps es = some ds → JA c X es (fun δ => .ok (ds.map fun p => .v p.2) δ)
  | [], ds, h => by cases h; exact ja_nil
  | e :: es, ds, h => by
    simp only [cexps, Option.bind_eq_some_iff, Option.map_eq_some_iff] at h
    obtain ⟨⟨v, d⟩, h1, ds', h2, rfl⟩ := h
    obtain ⟨q1, q2, q3⟩ := cexp_ok (X := X) h1
    exact ja_cons (je_c q1 fun G => q2 _ _ _) (ja_consts h2) (q3 es)
theorem avs_v : ∀ (ds : List D), avs (ds.map fun d => AV.v d) = some ds
  | [] => rfl
  | d :: ds => by show (avs (ds.map fun d => AV.v d)).map _ = _; rw [avs_v ds]; rfl
theorem je_tupC {es : List Expr} {x1 : Nat} {ds : List (V × D)} (h : cexps es = some ds) (hl : ds.length ≤ sizeLine := by decide) : JE c X (.Tuple es x1 pos) (dC (.tup (ds.map (·.2)))) := by
  have q : JE c X (.Tuple es x1 pos) (dTup (fun δ => .ok (ds.map fun p => .v p.2) δ)) := je_tup (ja_consts h)
  have e : dTup (fun δ => .ok (ds.map fun p => .v p.2) δ) = dC (.tup (ds.map (·.2))) := by
    funext δ
    have z : (ds.map fun p => AV.v p.2) = (ds.map (·.2)).map fun d => AV.v d := by rw [List.map_map]; rfl
    simp only [dTup, dVals, EO.bind, z, avs_v, List.length_map, hl, if_true, dC]
  rw [← e]; exact q
theorem jf_lstC {es : List Expr} {ds : List (V × D)} (h : cexps es = some ds) (hl : ds.length ≤ sizeLine := by decide) : JF c X (.List es pos) (dC (.lst (ds.map (·.2)))) := by
  have q : JF c X (.List es pos) (dLst (fun δ => .ok (ds.map fun p => .v p.2) δ)) := jf_lst (ja_consts h)
  have e : dLst (fun δ => .ok (ds.map fun p => .v p.2) δ) = dC (.lst (ds.map (·.2))) := by
    funext δ
    have z : (ds.map fun p => AV.v p.2) = (ds.map (·.2)).map fun d => AV.v d := by rw [List.map_map]; rfl
    simp only [dLst, dVals, EO.bind, z, avs_v, List.length_map, hl, if_true, dC]
  rw [← e]; exact q
end
theorem excC_of {K : PySem.W.Frag} {h : Heap} {mg : Str → Option Value} {P0 : Program} {w0 : World} (X : K.In h) (G : h.Ns mainGlobals mg) {x : Str} (g : (He.Fa.glo x).ok K = true) (e : (He.Fa.exc x).ok K = true) : ∃ C, ExcC K mg (⟨fun x => some (He.ga K x), P0, w0⟩ : Cw) x C := by
  obtain ⟨q1, q2, q3, q4⟩ := He.exc_ok e
  exact ⟨He.ga K x, He.glo_ok X G g, q1, q2, q3, q4, rfl⟩
end DL

set_option maxRecDepth 100000
set_option maxHeartbeats 4000000
/-! the plain functions, reckoned from within -/
namespace DL
open PySem PySem.Spec PyProof.Rows L2
def oE : Option D → DEnv → EO D
  | some z, δ => .ok z δ
  | none, _ => .st
def oB : Option Bool → DEnv → EO Bool
  | some z, δ => .ok z δ
  | none, _ => .st
def varK : Option Sl → Nat → DEnv → EO D
  | some (.val d), _, δ => .ok d δ
  | some (.own d), i, δ => .ok d (δ.set i (.val d))
  | _, _, _ => .st
def binK2 (g : D → D → Option D) (x : D) : EO D → EO D
  | .ok y δ => oE (g x y) δ
  | .ex c n d δ => .ex c n d δ
  | .st => .st
def binK (g : D → D → Option D) (fb : DE) : EO D → EO D
  | .ok x δ => binK2 g x (fb δ)
  | .ex c n d δ => .ex c n d δ
  | .st => .st
def unK (g : D → Option D) : EO D → EO D
  | .ok x δ => oE (g x) δ
  | .ex c n d δ => .ex c n d δ
  | .st => .st
def unB (g : D → Option Bool) : EO D → EO Bool
  | .ok x δ => oB (g x) δ
  | .ex c n d δ => .ex c n d δ
  | .st => .st
def asB : D → Option Bool
  | .bl b => some b
  | _ => none
def andK (fb : DE) (x : D) (δ : DEnv) : Option Bool → EO D
  | some true => fb δ
  | some false => .ok x δ
  | none => .st
def orK (fb : DE) (x : D) (δ : DEnv) : Option Bool → EO D
  | some true => .ok x δ
  | some false => fb δ
  | none => .st
def and1 (fb : DE) : EO D → EO D
  | .ok x δ => andK fb x δ (dTruth x)
  | .ex c n d δ => .ex c n d δ
  | .st => .st
def or1 (fb : DE) : EO D → EO D
  | .ok x δ => orK fb x δ (dTruth x)
  | .ex c n d δ => .ex c n d δ
  | .st => .st
def ifK {α : Type} (fa fb : DEnv → EO α) : EO Bool → EO α
  | .ok true δ => fa δ
  | .ok false δ => fb δ
  | .ex c n d δ => .ex c n d δ
  | .st => .st
def okB (b : Bool) : DT := fun δ => .ok b δ
def notK : EO Bool → EO Bool
  | .ok x δ => .ok (!x) δ
  | .ex c n d δ => .ex c n d δ
  | .st => .st
def consK2 (x : D) : EO (List AV) → EO (List AV)
  | .ok xs δ => .ok (.v x :: xs) δ
  | .ex c n d δ => .ex c n d δ
  | .st => .st
def consK (fr : DA) : EO D → EO (List AV)
  | .ok x δ => consK2 x (fr δ)
  | .ex c n d δ => .ex c n d δ
  | .st => .st
def refK (j : Nat) : EO (List AV) → EO (List AV)
  | .ok xs δ => .ok (.r j :: xs) δ
  | .ex c n d δ => .ex c n d δ
  | .st => .st
def refA1 (j : Nat) (fr : DA) (δ : DEnv) : Option Sl → EO (List AV)
  | some (.own _) => refK j (fr δ)
  | some (.rf _) => refK j (fr δ)
  | _ => .st
def valsK (g : List D → Option D) : EO (List AV) → EO D
  | .ok as δ => match avs as with
    | some ds => oE (g ds) δ
    | none => .st
  | .ex c n d δ => .ex c n d δ
  | .st => .st
def gTupD (ds : List D) : Option D := if ds.length ≤ sizeLine then some (.tup ds) else none
def gLstD (ds : List D) : Option D := if ds.length ≤ sizeLine then some (.lst ds) else none
def endK (js : List Nat) (δ : DEnv) : FO → EO D
  | .ret d rs => match putR δ js rs with | some δ2 => .ok d δ2 | none => .st
  | .new d rs => match putR δ js rs with | some δ2 => .ok d δ2 | none => .st
  | .ex c ns es rs => match putR δ js rs with | some δ2 => .ex c ns es δ2 | none => .st
  | .st => .st
def endO (js : List Nat) (δ : DEnv) : FO → EO D
  | .ret _ _ => .st
  | .new d rs => match putR δ js rs with | some δ2 => .ok d δ2 | none => .st
  | .ex c ns es rs => match putR δ js rs with | some δ2 => .ex c ns es δ2 | none => .st
  | .st => .st
def goK (e : List Nat → DEnv → FO → EO D) (dvs : List D) (fn : List D → FO) (as : List AV) (δ : DEnv) : Option (List D) → EO D
  | some ds => e (avj as) δ (fn (ds ++ dvs))
  | none => .st
def callK (e : List Nat → DEnv → FO → EO D) (ks : List Bool) (dvs : List D) (fn : List D → FO) : EO (List AV) → EO D
  | .ok as δ => if avk as ++ dvs.map (fun _ => false) = ks ∧ nodupB (avj as) = true then goK e dvs fn as δ (avd δ as) else .st
  | .ex c n d δ => .ex c n d δ
  | .st => .st
def itK1 (f : D → Option (List D)) : EO D → EO (List D)
  | .ok d δ => (match f d with | some ds => .ok ds δ | none => .st)
  | .ex c n d δ => .ex c n d δ
  | .st => .st
def rg1 : D → Option (List D)
  | .int j => if -(2 ^ 62) ≤ j ∧ j < 2 ^ 62 then some (rngD 0 j) else none
  | _ => none
def rgL : D → Option D
  | .int j => if 0 ≤ j ∧ j ≤ 16777216 then some (.lst (rngD 0 j)) else none
  | _ => none
def zpK2 (x : D) : EO D → EO (List D)
  | .ok y δ => (match seqD x, seqD y with | some ds, some es => .ok (zipD ds es) δ | _, _ => .st)
  | .ex c n d δ => .ex c n d δ
  | .st => .st
def zpK (fb : DE) : EO D → EO (List D)
  | .ok x δ => zpK2 x (fb δ)
  | .ex c n d δ => .ex c n d δ
  | .st => .st
def compK (A : D → DEnv → Option DEnv) (t : DT) (el : DE) (vs : List Nat) : EO (List D) → EO D
  | .ok ds δ => compL A t el vs ds δ []
  | .ex c n d δ => .ex c n d δ
  | .st => .st
def sK (k : D → DEnv → SO) : EO D → SO
  | .ok d δ => k d δ
  | .ex c n d δ => .ex c n d δ
  | .st => .st
def ifS (f g : DS) : EO Bool → SO
  | .ok true δ => f δ
  | .ok false δ => g δ
  | .ex c n d δ => .ex c n d δ
  | .st => .st
def forK (A : D → DEnv → Option DEnv) (f : DS) : EO (List D) → SO
  | .ok ds δ => forL A f ds δ
  | .ex c n d δ => .ex c n d δ
  | .st => .st
def kNx (_ : D) (δ : DEnv) : SO := .nx δ
def kRt (d : D) (δ : DEnv) : SO := .rt d δ
def kRo (d : D) (δ : DEnv) : SO := .ro d δ
def kSet (i : Nat) (d : D) (δ : DEnv) : SO := oNx (setV i d δ)
def kSetO (i : Nat) (d : D) (δ : DEnv) : SO := oNx (setO i d δ)
def kUnp (A : D → DEnv → Option DEnv) (d : D) (δ : DEnv) : SO := oNx (A d δ)
def kAug (i : Nat) (g : D → D → Option D) (x y : D) (δ : DEnv) : SO := match g x y with
  | some z => oNx (setV i z δ)
  | none => .st
def setVK (i : Nat) (d : D) (δ : DEnv) : Option Sl → Option DEnv
  | some (.rf _) => none
  | some _ => some (δ.set i (.val d))
  | none => none
def setOK (i : Nat) (d : D) (δ : DEnv) : Option Sl → Option DEnv
  | some (.rf _) => none
  | some _ => some (δ.set i (.own d))
  | none => none
def lkK : Option Sl → Option D
  | some (.val d) => some d
  | some (.own d) => some d
  | some (.rf d) => some d
  | _ => none
def ix3 (y : D) (δ : DEnv) : Option D → EO D
  | some d => oE (idxD d y) δ
  | none => .st
def ixK2 (j : Nat) : EO D → EO D
  | .ok y δ => ix3 y δ (look δ j)
  | .ex c n d δ => .ex c n d δ
  | .st => .st
def ixK (j : Nat) (fb : DE) (δ : DEnv) : Option D → EO D
  | some _ => ixK2 j (fb δ)
  | none => .st
section
variable (f g : DS) (δ : DEnv) (t u : DT) (fa fb : DE) (G : D → D → Option D) (U : D → Option D) (fs : DA) (i j : Nat)
theorem a_seq : sSeq f g δ = (f δ).then g := rfl
theorem a_expr : sExpr fa δ = sK kNx (fa δ) := by unfold sExpr; cases fa δ <;> rfl
theorem a_ret : sRet fa δ = sK kRt (fa δ) := by unfold sRet; cases fa δ <;> rfl
theorem a_retO : sRetO fa δ = sK kRo (fa δ) := by unfold sRetO; cases fa δ <;> rfl
theorem a_set : sSet i fa δ = sK (kSet i) (fa δ) := by unfold sSet; cases fa δ <;> rfl
theorem a_setO : sSetO i fa δ = sK (kSetO i) (fa δ) := by unfold sSetO; cases fa δ <;> rfl
theorem a_if : sIf t f g δ = ifS f g (t δ) := by
  unfold sIf
  cases t δ with
  | ok b δ => cases b <;> rfl
  | ex c n d δ => rfl
  | st => rfl
theorem a_unp (A : D → DEnv → Option DEnv) : sUnp A fa δ = sK (kUnp A) (fa δ) := by unfold sUnp; cases fa δ <;> rfl
theorem a_for (it : DI) (A : D → DEnv → Option DEnv) : sFor it A f δ = forK A f (it δ) := by unfold sFor; cases it δ <;> rfl
theorem a_nil : sNil δ = .nx δ := rfl
theorem a_retN : sRetN δ = .rt .non δ := rfl
theorem a_then_0 (f : DS) (δ : DEnv) : (SO.nx δ).then f = f δ := rfl
theorem a_then_1 (f : DS) (δ : DEnv) (d : D) : (SO.rt d δ).then f = .rt d δ := rfl
theorem a_then_2 (f : DS) (δ : DEnv) (d : D) : (SO.ro d δ).then f = .ro d δ := rfl
theorem a_then_3 (f : DS) (δ : DEnv) (c : Str) (n : List Str) (ds : List D) : (SO.ex c n ds δ).then f = .ex c n ds δ := rfl
theorem a_sK_0 (δ : DEnv) (k : D → DEnv → SO) (d : D) : sK k (.ok d δ) = k d δ := rfl
theorem a_sK_1 (δ : DEnv) (k : D → DEnv → SO) (c : Str) (n : List Str) (ds : List D) : sK k (.ex c n ds δ) = .ex c n ds δ := rfl
theorem a_ifS_0 (f : DS) (g : DS) (δ : DEnv) : ifS f g (.ok true δ) = f δ := rfl
theorem a_ifS_1 (f : DS) (g : DS) (δ : DEnv) : ifS f g (.ok false δ) = g δ := rfl
theorem a_ifS_2 (f : DS) (g : DS) (δ : DEnv) (c : Str) (n : List Str) (ds : List D) : ifS f g (.ex c n ds δ) = .ex c n ds δ := rfl
theorem a_k_0 (δ : DEnv) (d : D) : kNx d δ = .nx δ := rfl
theorem a_k_1 (δ : DEnv) (d : D) : kRt d δ = .rt d δ := rfl
theorem a_k_2 (δ : DEnv) (d : D) : kRo d δ = .ro d δ := rfl
theorem a_k_3 (δ : DEnv) (i : Nat) (d : D) : kSet i d δ = oNx (setV i d δ) := rfl
theorem a_k_4 (δ : DEnv) (i : Nat) (d : D) : kSetO i d δ = oNx (setO i d δ) := rfl
theorem a_k_5 (δ : DEnv) (d : D) (A : D → DEnv → Option DEnv) : kUnp A d δ = oNx (A d δ) := rfl
theorem a_k_6 (δ : DEnv) : oNx (some δ) = .nx δ := rfl
theorem a_setV (d : D) : setV i d δ = setVK i d δ δ[i]? := by
  unfold setV setVK
  cases δ[i]? with
  | none => rfl
  | some s => cases s <;> rfl
theorem a_setOd (d : D) : setO i d δ = setOK i d δ δ[i]? := by
  unfold setO setOK
  cases δ[i]? with
  | none => rfl
  | some s => cases s <;> rfl
theorem a_setVK_0 (δ : DEnv) (i : Nat) (d : D) : setVK i d δ (some .un) = some (δ.set i (.val d)) := rfl
theorem a_setVK_1 (δ : DEnv) (i : Nat) (d : D) (e : D) : setVK i d δ (some (.val e)) = some (δ.set i (.val d)) := rfl
theorem a_setVK_2 (δ : DEnv) (i : Nat) (d : D) (e : D) : setVK i d δ (some (.own e)) = some (δ.set i (.val d)) := rfl
theorem a_setVK_3 (δ : DEnv) (i : Nat) (d : D) : setOK i d δ (some .un) = some (δ.set i (.own d)) := rfl
theorem a_setVK_4 (δ : DEnv) (i : Nat) (d : D) (e : D) : setOK i d δ (some (.val e)) = some (δ.set i (.own d)) := rfl
theorem a_setVK_5 (δ : DEnv) (i : Nat) (d : D) (e : D) : setOK i d δ (some (.own e)) = some (δ.set i (.own d)) := rfl
theorem a_c (d : D) : dC d δ = .ok d δ := rfl
theorem a_var : dVar i δ = varK δ[i]? i δ := by
  unfold dVar varK
  cases δ[i]? with
  | none => rfl
  | some s => cases s <;> rfl
theorem a_varK_0 (δ : DEnv) (i : Nat) (d : D) : varK (some (.val d)) i δ = .ok d δ := rfl
theorem a_varK_1 (δ : DEnv) (i : Nat) (d : D) : varK (some (.own d)) i δ = .ok d (δ.set i (.val d)) := rfl
theorem a_bin : dBin G fa fb δ = binK G fb (fa δ) := by
  unfold dBin
  cases fa δ with
  | ok x δ1 =>
    show (fb δ1).bind _ = binK2 G x (fb δ1)
    cases fb δ1 with
    | ok y δ2 => show (match G x y with | some z => EO.ok z δ2 | none => .st) = oE (G x y) δ2; cases G x y <;> rfl
    | ex c n d δ => rfl
    | st => rfl
  | ex c n d δ => rfl
  | st => rfl
theorem a_binK_0 (δ : DEnv) (fb : DE) (G : D → D → Option D) (x : D) : binK G fb (.ok x δ) = binK2 G x (fb δ) := rfl
theorem a_binK_1 (δ : DEnv) (G : D → D → Option D) (x : D) (y : D) : binK2 G x (.ok y δ) = oE (G x y) δ := rfl
theorem a_binK_2 (δ : DEnv) (fb : DE) (G : D → D → Option D) (c : Str) (n : List Str) (ds : List D) : binK G fb (.ex c n ds δ) = .ex c n ds δ := rfl
theorem a_binK_3 (δ : DEnv) (G : D → D → Option D) (x : D) (c : Str) (n : List Str) (ds : List D) : binK2 G x (.ex c n ds δ) = .ex c n ds δ := rfl
theorem a_oE_0 (δ : DEnv) (x : D) : oE (some x) δ = .ok x δ := rfl
theorem a_oE_1 (δ : DEnv) (b : Bool) : oB (some b) δ = .ok b δ := rfl
theorem a_un : dUn U fa δ = unK U (fa δ) := by
  unfold dUn
  cases fa δ with
  | ok x δ1 => show (match U x with | some z => EO.ok z δ1 | none => .st) = oE (U x) δ1; cases U x <;> rfl
  | ex c n d δ => rfl
  | st => rfl
theorem a_unK_0 (δ : DEnv) (U : D → Option D) (x : D) : unK U (.ok x δ) = oE (U x) δ := rfl
theorem a_unK_1 (δ : DEnv) (x : D) (B : D → Option Bool) : unB B (.ok x δ) = oB (B x) δ := rfl
theorem a_unK_2 (δ : DEnv) (U : D → Option D) (c : Str) (n : List Str) (ds : List D) : unK U (.ex c n ds δ) = .ex c n ds δ := rfl
theorem a_unK_3 (δ : DEnv) (B : D → Option Bool) (c : Str) (n : List Str) (ds : List D) : unB B (.ex c n ds δ) = .ex c n ds δ := rfl
theorem a_test : dTest fa δ = unB asB (fa δ) := by
  unfold dTest
  cases fa δ with
  | ok x δ1 => cases x <;> rfl
  | ex c n d δ => rfl
  | st => rfl
theorem a_tru : dTru fa δ = unB dTruth (fa δ) := by
  unfold dTru
  cases fa δ with
  | ok x δ1 => show (match dTruth x with | some b => EO.ok b δ1 | none => .st) = oB (dTruth x) δ1; cases dTruth x <;> rfl
  | ex c n d δ => rfl
  | st => rfl
theorem a_not : dNot fa δ = unK (fun x => (dTruth x).map fun b => .bl (!b)) (fa δ) := by
  unfold dNot
  cases fa δ with
  | ok x δ1 => show (match dTruth x with | some b => EO.ok (D.bl (!b)) δ1 | none => .st) = oE ((dTruth x).map fun b => .bl (!b)) δ1; cases dTruth x <;> rfl
  | ex c n d δ => rfl
  | st => rfl
theorem a_asB_0 (b : Bool) : asB (.bl b) = some b := rfl
theorem a_asB_1 (b : Bool) : dTruth (.bl b) = some b := rfl
theorem a_asB_2  : dTruth .non = some false := rfl
theorem a_asB_3 (k : Int) : dTruth (.int k) = some (k != 0) := rfl
theorem a_lst_0 (xs : List D) : dTruth (.lst xs) = some (!xs.isEmpty) := rfl
theorem a_lst_1 (xs : List D) : dTruth (.tup xs) = some (!xs.isEmpty) := rfl
theorem a_and : dAnd fa fb δ = and1 fb (fa δ) := by
  unfold dAnd
  cases fa δ with
  | ok x δ1 => show (match dTruth x with | some true => fb δ1 | some false => EO.ok x δ1 | none => .st) = andK fb x δ1 (dTruth x); cases dTruth x with
    | none => rfl
    | some b => cases b <;> rfl
  | ex c n d δ => rfl
  | st => rfl
theorem a_or : dOr fa fb δ = or1 fb (fa δ) := by
  unfold dOr
  cases fa δ with
  | ok x δ1 => show (match dTruth x with | some true => EO.ok x δ1 | some false => fb δ1 | none => .st) = orK fb x δ1 (dTruth x); cases dTruth x with
    | none => rfl
    | some b => cases b <;> rfl
  | ex c n d δ => rfl
  | st => rfl
theorem a_andK_0 (δ : DEnv) (fb : DE) (x : D) : and1 fb (.ok x δ) = andK fb x δ (dTruth x) := rfl
theorem a_andK_1 (δ : DEnv) (fb : DE) (x : D) : or1 fb (.ok x δ) = orK fb x δ (dTruth x) := rfl
theorem a_andK_2 (δ : DEnv) (fb : DE) (x : D) : andK fb x δ (some true) = fb δ := rfl
theorem a_andK_3 (δ : DEnv) (fb : DE) (x : D) : andK fb x δ (some false) = .ok x δ := rfl
theorem a_andK_4 (δ : DEnv) (fb : DE) (x : D) : orK fb x δ (some true) = .ok x δ := rfl
theorem a_andK_5 (δ : DEnv) (fb : DE) (x : D) : orK fb x δ (some false) = fb δ := rfl
theorem a_dIf : dIf t fa fb δ = ifK fa fb (t δ) := by
  unfold dIf
  cases t δ with
  | ok b δ => cases b <;> rfl
  | ex c n d δ => rfl
  | st => rfl
theorem a_tand : tAndD t u δ = ifK u (okB false) (t δ) := by
  unfold tAndD
  cases t δ with
  | ok b δ => cases b <;> rfl
  | ex c n d δ => rfl
  | st => rfl
theorem a_tor : tOrD t u δ = ifK (okB true) u (t δ) := by
  unfold tOrD
  cases t δ with
  | ok b δ => cases b <;> rfl
  | ex c n d δ => rfl
  | st => rfl
theorem a_tnot : tNotD t δ = notK (t δ) := by unfold tNotD; cases t δ <;> rfl
theorem a_ifK_0 {α : Type} (δ : DEnv) (p : DEnv → EO α) (q : DEnv → EO α) : ifK p q (.ok true δ) = p δ := rfl
theorem a_ifK_1 {α : Type} (δ : DEnv) (p : DEnv → EO α) (q : DEnv → EO α) : ifK p q (.ok false δ) = q δ := rfl
theorem a_ifK_2 (δ : DEnv) (b : Bool) : okB b δ = .ok b δ := rfl
theorem a_ifK_3 (δ : DEnv) (b : Bool) : notK (.ok b δ) = .ok (!b) δ := rfl
theorem a_ifK_4 (δ : DEnv) : dYes δ = .ok true δ := rfl
theorem a_cons : dCons fa fs δ = consK fs (fa δ) := by
  unfold dCons
  cases fa δ with
  | ok x δ1 => show (fs δ1).bind _ = consK2 x (fs δ1); cases fs δ1 <;> rfl
  | ex c n d δ => rfl
  | st => rfl
theorem a_consK_0 (δ : DEnv) : dNil δ = .ok [] δ := rfl
theorem a_consK_1 (δ : DEnv) (fs : DA) (x : D) : consK fs (.ok x δ) = consK2 x (fs δ) := rfl
theorem a_consK_2 (δ : DEnv) (x : D) (as : List AV) : consK2 x (.ok as δ) = .ok (.v x :: as) δ := rfl
theorem a_consK_3 (δ : DEnv) (fs : DA) (c : Str) (n : List Str) (ds : List D) : consK fs (.ex c n ds δ) = .ex c n ds δ := rfl
theorem a_consK_4 (δ : DEnv) (x : D) (c : Str) (n : List Str) (ds : List D) : consK2 x (.ex c n ds δ) = .ex c n ds δ := rfl
theorem a_refA : dRefA j fs δ = refA1 j fs δ δ[j]? := by
  unfold dRefA refA1
  cases δ[j]? with
  | none => rfl
  | some s =>
    cases s <;> first | rfl | (show (fs δ).bind _ = refK j (fs δ); cases fs δ <;> rfl)
theorem a_refK_0 (δ : DEnv) (fs : DA) (j : Nat) (d : D) : refA1 j fs δ (some (.own d)) = refK j (fs δ) := rfl
theorem a_refK_1 (δ : DEnv) (fs : DA) (j : Nat) (d : D) : refA1 j fs δ (some (.rf d)) = refK j (fs δ) := rfl
theorem a_refK_2 (δ : DEnv) (j : Nat) (as : List AV) : refK j (.ok as δ) = .ok (.r j :: as) δ := rfl
theorem vals_eq (g : List D → Option D) : dVals fs (fun ds δ => match g ds with | some z => .ok z δ | none => .st) δ = valsK g (fs δ) := by
  unfold dVals
  cases fs δ with
  | ok as δ1 =>
    show (match avs as with | some ds => _ | none => _) = (match avs as with | some ds => oE (g ds) δ1 | none => .st)
    cases avs as with
    | none => rfl
    | some ds => show (match g ds with | some z => EO.ok z δ1 | none => .st) = oE (g ds) δ1; cases g ds <;> rfl
  | ex c n d δ => rfl
  | st => rfl
theorem a_cb (g : List D → Option D) : dCallB g fs δ = valsK g (fs δ) := vals_eq δ fs g
theorem a_tup : dTup fs δ = valsK gTupD (fs δ) := by
  rw [← vals_eq]; unfold dTup
  congr 1
  funext ds δ
  unfold gTupD
  by_cases h : ds.length ≤ sizeLine
  · rw [if_pos h, if_pos h]
  · rw [if_neg h, if_neg h]
theorem a_dLst : dLst fs δ = valsK gLstD (fs δ) := by
  rw [← vals_eq]; unfold dLst
  congr 1
  funext ds δ
  unfold gLstD
  by_cases h : ds.length ≤ sizeLine
  · rw [if_pos h, if_pos h]
  · rw [if_neg h, if_neg h]
theorem a_vals0 (g : List D → Option D) : valsK g (.ok [] δ) = oE (g []) δ := rfl
theorem a_vals1 (g : List D → Option D) (a : D) : valsK g (.ok [.v a] δ) = oE (g [a]) δ := rfl
theorem a_vals2 (g : List D → Option D) (a b : D) : valsK g (.ok [.v a, .v b] δ) = oE (g [a, b]) δ := rfl
theorem a_vals3 (g : List D → Option D) (a b c : D) : valsK g (.ok [.v a, .v b, .v c] δ) = oE (g [a, b, c]) δ := rfl
theorem a_vals4 (g : List D → Option D) (a b c d : D) : valsK g (.ok [.v a, .v b, .v c, .v d] δ) = oE (g [a, b, c, d]) δ := rfl
theorem call_eq (ks : List Bool) (dvs : List D) (fn : List D → FO) : dCall ks dvs fn fs δ = callK endK ks dvs fn (fs δ) := by
  unfold dCall
  cases fs δ with
  | ok as δ1 =>
    show (if _ then _ else _) = (if _ then _ else _)
    by_cases h : avk as ++ dvs.map (fun _ => false) = ks ∧ nodupB (avj as) = true
    · rw [if_pos h, if_pos h]
      cases avd δ1 as with
      | none => rfl
      | some ds => show (match fn (ds ++ dvs) with | .ret d rs => _ | .new d rs => _ | .ex c ns es rs => _ | .st => _) = endK (avj as) δ1 (fn (ds ++ dvs)); cases fn (ds ++ dvs) <;> rfl
    · rw [if_neg h, if_neg h]
  | ex c n d δ => rfl
  | st => rfl
theorem callO_eq (ks : List Bool) (dvs : List D) (fn : List D → FO) : dCallO ks dvs fn fs δ = callK endO ks dvs fn (fs δ) := by
  unfold dCallO
  cases fs δ with
  | ok as δ1 =>
    show (if _ then _ else _) = (if _ then _ else _)
    by_cases h : avk as ++ dvs.map (fun _ => false) = ks ∧ nodupB (avj as) = true
    · rw [if_pos h, if_pos h]
      cases avd δ1 as with
      | none => rfl
      | some ds => show (match fn (ds ++ dvs) with | .ret d rs => _ | .new d rs => _ | .ex c ns es rs => _ | .st => _) = endO (avj as) δ1 (fn (ds ++ dvs)); cases fn (ds ++ dvs) <;> rfl
    · rw [if_neg h, if_neg h]
  | ex c n d δ => rfl
  | st => rfl
section
variable (e : List Nat → DEnv → FO → EO D) (dvs : List D) (fn : List D → FO) (a b c d : D)
theorem a_call1 : callK e [false] [] fn (.ok [.v a] δ) = e [] δ (fn [a]) := rfl
theorem a_call2 : callK e [false, false] [] fn (.ok [.v a, .v b] δ) = e [] δ (fn [a, b]) := rfl
theorem a_call3 : callK e [false, false, false] [] fn (.ok [.v a, .v b, .v c] δ) = e [] δ (fn [a, b, c]) := rfl
theorem a_call4 : callK e [false, false, false, false] [] fn (.ok [.v a, .v b, .v c, .v d] δ) = e [] δ (fn [a, b, c, d]) := rfl
def rfK (e : List Nat → DEnv → FO → EO D) (fn : List D → FO) (j : Nat) (r : List D) (δ : DEnv) : Option D → EO D
  | some x => e [j] δ (fn (x :: r))
  | none => .st
theorem rf_eq (as : List AV) (ks : List Bool) (r : List D) (h : avk as = ks) (h2 : avd δ as = some r) (h3 : avj as = []) : callK e (true :: ks) [] fn (.ok (.r j :: as) δ) = rfK e fn j r δ (δ[j]?.bind Sl.cont) := by
  show (if (true :: avk as) ++ [] = true :: ks ∧ nodupB (j :: avj as) = true then goK e [] fn (.r j :: as) δ (avd δ (.r j :: as)) else .st) = _
  rw [h3, h, List.append_nil, if_pos ⟨rfl, rfl⟩]
  show goK e [] fn (.r j :: as) δ ((avd δ as).bind fun ds => (δ[j]?.bind Sl.cont).map fun d => d :: ds) = _
  rw [h2]
  show goK e [] fn (.r j :: as) δ ((δ[j]?.bind Sl.cont).map fun d => d :: r) = _
  cases δ[j]?.bind Sl.cont with
  | none => rfl
  | some x =>
    show e (j :: avj as) δ (fn (x :: r ++ [])) = e [j] δ (fn (x :: r))
    rw [h3, List.append_nil]
theorem a_rf0 : callK e [true] [] fn (.ok [.r j] δ) = rfK e fn j [] δ (δ[j]?.bind Sl.cont) := rf_eq δ j e fn [] [] [] rfl rfl rfl
theorem a_rf1 : callK e [true, false] [] fn (.ok [.r j, .v a] δ) = rfK e fn j [a] δ (δ[j]?.bind Sl.cont) := rf_eq δ j e fn [.v a] [false] [a] rfl rfl rfl
theorem a_rf2 : callK e [true, false, false] [] fn (.ok [.r j, .v a, .v b] δ) = rfK e fn j [a, b] δ (δ[j]?.bind Sl.cont) := rf_eq δ j e fn [.v a, .v b] [false, false] [a, b] rfl rfl rfl
theorem a_rfK_0 (δ : DEnv) (j : Nat) (x : D) (r : List D) (e : List Nat → DEnv → FO → EO D) (fn : List D → FO) : rfK e fn j r δ (some x) = e [j] δ (fn (x :: r)) := rfl
theorem a_rfK_1 (x : D) : (Option.bind (some (Sl.own x)) Sl.cont) = some x := rfl
theorem a_rfK_2 (x : D) : (Option.bind (some (Sl.rf x)) Sl.cont) = some x := rfl
end
def put1 (j : Nat) (d y : D) (δ : DEnv) : Option Sl → EO D
  | some (.own _) => .ok d (δ.set j (.own y))
  | some (.rf _) => .ok d (δ.set j (.rf y))
  | some s => .ok d (δ.set j s)
  | none => .st
theorem a_end0_0 (δ : DEnv) (d : D) : endK [] δ (.ret d []) = .ok d δ := rfl
theorem a_end0_1 (δ : DEnv) (d : D) : endK [] δ (.new d []) = .ok d δ := rfl
theorem a_end0_2 (δ : DEnv) (d : D) : endO [] δ (.new d []) = .ok d δ := rfl
theorem a_end0_3 (δ : DEnv) (c : Str) (n : List Str) (ds : List D) : endK [] δ (.ex c n ds []) = .ex c n ds δ := rfl
theorem a_end1 (d y : D) : endK [j] δ (.ret d [y]) = put1 j d y δ δ[j]? := by
  show (match (match δ[j]? with | some s => some (δ.set j (s.put y)) | none => none) with | some δ2 => EO.ok d δ2 | none => .st) = put1 j d y δ δ[j]?
  unfold put1
  cases δ[j]? with
  | none => rfl
  | some s => cases s <;> rfl
theorem a_put1_0 (δ : DEnv) (j : Nat) (d : D) (x : D) (y : D) : put1 j d y δ (some (.own x)) = .ok d (δ.set j (.own y)) := rfl
theorem a_put1_1 (δ : DEnv) (j : Nat) (d : D) (x : D) (y : D) : put1 j d y δ (some (.rf x)) = .ok d (δ.set j (.rf y)) := rfl
theorem a_look : look δ j = lkK δ[j]? := by
  unfold look lkK
  cases δ[j]? with
  | none => rfl
  | some s => cases s <;> rfl
theorem a_lkK_0 (d : D) : lkK (some (.val d)) = some d := rfl
theorem a_lkK_1 (d : D) : lkK (some (.own d)) = some d := rfl
theorem a_lkK_2 (d : D) : lkK (some (.rf d)) = some d := rfl
theorem a_ixV : dIxV j fb δ = ixK j fb δ (look δ j) := by
  unfold dIxV ixK
  cases look δ j with
  | none => rfl
  | some d =>
    show (fb δ).bind _ = ixK2 j (fb δ)
    cases fb δ with
    | ok y δ1 =>
      show (match (look δ1 j).bind fun d => idxD d y with | some z => EO.ok z δ1 | none => .st) = ix3 y δ1 (look δ1 j)
      cases look δ1 j with
      | none => rfl
      | some d => show (match idxD d y with | some z => EO.ok z δ1 | none => .st) = oE (idxD d y) δ1; cases idxD d y <;> rfl
    | ex c n d δ => rfl
    | st => rfl
theorem a_ixK_0 (δ : DEnv) (fb : DE) (j : Nat) (d : D) : ixK j fb δ (some d) = ixK2 j (fb δ) := rfl
theorem a_ixK_1 (δ : DEnv) (j : Nat) (y : D) : ixK2 j (.ok y δ) = ix3 y δ (look δ j) := rfl
theorem a_ixK_2 (δ : DEnv) (d : D) (y : D) : ix3 y δ (some d) = oE (idxD d y) δ := rfl
theorem a_lenV : dLenV j δ = oE ((look δ j).bind fun d => (lenD d).map fun n => D.int (n : Nat)) δ := by
  unfold dLenV
  cases look δ j with
  | none => rfl
  | some d => show (match lenD d with | some n => EO.ok (D.int (n : Nat)) δ | none => .st) = oE ((lenD d).map fun n => D.int (n : Nat)) δ; cases lenD d <;> rfl
theorem a_truV : dTruV j δ = oB ((look δ j).bind dTruth) δ := by
  unfold dTruV
  cases (look δ j).bind dTruth <;> rfl
theorem a_len_0 (ds : List D) : lenD (.lst ds) = some ds.length := rfl
theorem a_len_1 (ds : List D) : lenD (.tup ds) = some ds.length := rfl
theorem a_len_2 (ns : List Int) : lenD (.scr ns) = some ns.length := rfl
theorem a_len_3 (ds : List D) : gLen [.lst ds] = some (.int (ds.length : Nat)) := rfl
theorem a_len_4 (ds : List D) : gLen [.tup ds] = some (.int (ds.length : Nat)) := rfl
theorem a_it : dIt fa δ = itK1 dItems (fa δ) := by unfold dIt; cases fa δ <;> rfl
theorem a_rg1 : dRg1 fa δ = itK1 rg1 (fa δ) := by
  unfold dRg1
  cases fa δ with
  | ok x δ1 =>
    cases x with
    | int j =>
      show (if -(2 ^ 62) ≤ j ∧ j < 2 ^ 62 then EO.ok (rngD 0 j) δ1 else .st) = (match (if -(2 ^ 62) ≤ j ∧ j < 2 ^ 62 then some (rngD 0 j) else none) with | some ds => .ok ds δ1 | none => .st)
      by_cases h : -(2 ^ 62) ≤ j ∧ j < 2 ^ 62
      · rw [if_pos h, if_pos h]
      · rw [if_neg h, if_neg h]
    | _ => rfl
  | ex c n d δ => rfl
  | st => rfl
theorem a_rgL : dRgL fa δ = unK rgL (fa δ) := by
  unfold dRgL
  cases fa δ with
  | ok x δ1 =>
    cases x with
    | int j =>
      show (if 0 ≤ j ∧ j ≤ 16777216 then EO.ok (.lst (rngD 0 j)) δ1 else .st) = oE (if 0 ≤ j ∧ j ≤ 16777216 then some (.lst (rngD 0 j)) else none) δ1
      by_cases h : 0 ≤ j ∧ j ≤ 16777216
      · rw [if_pos h, if_pos h]; rfl
      · rw [if_neg h, if_neg h]; rfl
    | _ => rfl
  | ex c n d δ => rfl
  | st => rfl
theorem a_en : dEn fa δ = itK1 (fun d => (seqD d).map (enumD 0)) (fa δ) := by
  unfold dEn
  cases fa δ with
  | ok x δ1 => show (match seqD x with | some ds => EO.ok (enumD 0 ds) δ1 | none => .st) = (match (seqD x).map (enumD 0) with | some ds => .ok ds δ1 | none => .st); cases seqD x <;> rfl
  | ex c n d δ => rfl
  | st => rfl
theorem a_zp : dZp fa fb δ = zpK fb (fa δ) := by
  unfold dZp
  cases fa δ with
  | ok x δ1 =>
    show (fb δ1).bind _ = zpK2 x (fb δ1)
    cases fb δ1 <;> rfl
  | ex c n d δ => rfl
  | st => rfl
theorem a_zpL (p q : Bool) (ds es : List D) : zpK fb (.ok (if p then .lst ds else .tup ds) δ) = zpK2 (if p then .lst ds else .tup ds) (fb δ) ∧ zpK2 (if p then .lst ds else .tup ds) (.ok (if q then .lst es else .tup es) δ) = .ok (zipD ds es) δ := ⟨rfl, by cases p <;> cases q <;> rfl⟩
theorem a_itK_0 (δ : DEnv) (ds : List D) : itK1 dItems (.ok (.lst ds) δ) = .ok ds δ := rfl
theorem a_itK_1 (δ : DEnv) (ds : List D) : itK1 dItems (.ok (.tup ds) δ) = .ok ds δ := rfl
theorem a_itK_2 (δ : DEnv) (ns : List Int) : itK1 dItems (.ok (.scr ns) δ) = .ok (ns.map D.int) δ := rfl
theorem a_itE_0 (δ : DEnv) (ds : List D) : itK1 (fun d => (seqD d).map (enumD 0)) (.ok (.lst ds) δ) = .ok (enumD 0 ds) δ := rfl
theorem a_itE_1 (δ : DEnv) (ds : List D) : itK1 (fun d => (seqD d).map (enumD 0)) (.ok (.tup ds) δ) = .ok (enumD 0 ds) δ := rfl
theorem a_itR (n : Int) (h : -(2 ^ 62) ≤ n ∧ n < 2 ^ 62) : itK1 rg1 (.ok (.int n) δ) = .ok (rngD 0 n) δ := by
  show (match (if -(2 ^ 62) ≤ n ∧ n < 2 ^ 62 then some (rngD 0 n) else none) with | some ds => EO.ok ds δ | none => .st) = _
  rw [if_pos h]
theorem a_comp (it : DI) (A : D → DEnv → Option DEnv) (vs : List Nat) : dComp it A t fa vs δ = compK A t fa vs (it δ) := by unfold dComp; cases it δ <;> rfl
theorem a_compK_0 (δ : DEnv) (t : DT) (fa : DE) (A : D → DEnv → Option DEnv) (vs : List Nat) (ds : List D) : compK A t fa vs (.ok ds δ) = compL A t fa vs ds δ [] := rfl
theorem a_compK_1 (f : DS) (δ : DEnv) (A : D → DEnv → Option DEnv) (ds : List D) : forK A f (.ok ds δ) = forL A f ds δ := rfl
theorem a_isi (Ts : List String) : dIsi Ts fa δ = unK (fun d => (tyD d).map fun t => .bl (Ts.any (subT t))) (fa δ) := by
  unfold dIsi
  cases fa δ with
  | ok x δ1 => show (match tyD x with | some t => EO.ok (.bl (Ts.any (subT t))) δ1 | none => .st) = oE ((tyD x).map fun t => .bl (Ts.any (subT t))) δ1; cases tyD x <;> rfl
  | ex c n d δ => rfl
  | st => rfl
theorem a_gI_0 (C : Int → Int → Bool) (h : Int → Int → Int) (k : Int) (l : Int) : gI C h (.int k) (.int l) = (if C k l = true then some (.int (h k l)) else none) := rfl
theorem a_gI_1 (k : Int) (l : Int) (p : Int → Int → Bool) : gB p (.int k) (.int l) = some (.bl (p k l)) := rfl
theorem a_gI_2 (k : Int) (l : Int) : gAdd (.int k) (.int l) = some (.int (k + l)) := rfl
end
/-- the new state behind an appended item -/
theorem if_t {α : Type} {x y : α} : (if true = true then x else y) = x := rfl
theorem if_f {α : Type} {x y : α} : (if false = true then x else y) = y := rfl
end DL

set_option maxRecDepth 100000
set_option maxHeartbeats 4000000
/-! loops, stores and comprehensions, reckoned from within -/
namespace DL
open PySem PySem.Spec PyProof.Rows L2
/-! ### for -/
def fl2 (A : D → DEnv → Option DEnv) (f : DS) (ds : List D) : SO → SO
  | .nx δ2 => forL A f ds δ2
  | .ct δ2 => forL A f ds δ2
  | .bk δ2 => .nx δ2
  | .rt x δ2 => .rt x δ2
  | .ro x δ2 => .ro x δ2
  | .ex c n es δ2 => .ex c n es δ2
  | .st => .st
def fl1 (A : D → DEnv → Option DEnv) (f : DS) (ds : List D) : Option DEnv → SO
  | some δ1 => fl2 A f ds (f δ1)
  | none => .st
section
variable (A : D → DEnv → Option DEnv) (f : DS) (d x : D) (ds es : List D) (δ : DEnv) (c : Str) (n : List Str)
theorem f_nil : forL A f [] δ = .nx δ := rfl
theorem f_cons : forL A f (d :: ds) δ = fl1 A f ds (A d δ) := by
  show (match A d δ with | none => SO.st | some δ1 => _) = _
  cases A d δ with
  | none => rfl
  | some δ1 => show (match f δ1 with | .nx δ2 => _ | .ct δ2 => _ | .bk δ2 => _ | .rt x δ2 => _ | .ro x δ2 => _ | .ex c n es δ2 => _ | .st => _) = fl2 A f ds (f δ1); cases f δ1 <;> rfl
theorem f_some : fl1 A f ds (some δ) = fl2 A f ds (f δ) := rfl
theorem f_nx : fl2 A f ds (.nx δ) = forL A f ds δ := rfl
theorem f_ct : fl2 A f ds (.ct δ) = forL A f ds δ := rfl
theorem f_bk : fl2 A f ds (.bk δ) = .nx δ := rfl
theorem f_rt : fl2 A f ds (.rt x δ) = .rt x δ := rfl
theorem f_ex : fl2 A f ds (.ex c n es δ) = .ex c n es δ := rfl
end
/-- a loop by an invariant over the items taken so far -/
theorem for_inv {A : D → DEnv → Option DEnv} {f : DS} (I : List D → DEnv → Prop) : ∀ (ds pre : List D) (δ : DEnv), I pre δ →
    (∀ (pre : List D) (d : D) (δ : DEnv), d ∈ ds → I pre δ → ∃ δ2, fl1 A f [] (A d δ) = .nx δ2 ∧ I (pre ++ [d]) δ2 ∧ ∀ r, fl1 A f r (A d δ) = forL A f r δ2) →
    ∃ δ', forL A f ds δ = .nx δ' ∧ I (pre ++ ds) δ'
  | [], pre, δ, h, _ => ⟨δ, rfl, by rw [List.append_nil]; exact h⟩
  | d :: ds, pre, δ, h, st => by
    obtain ⟨δ2, _, i2, e2⟩ := st pre d δ List.mem_cons_self h
    obtain ⟨δ', e3, i3⟩ := for_inv I ds (pre ++ [d]) δ2 i2 fun pre d δ hd h => st pre d δ (List.mem_cons_of_mem _ hd) h
    exact ⟨δ', by rw [f_cons, e2, e3], by rw [List.append_assoc] at i3; exact i3⟩
/-- the same, told by what one turn gives -/
theorem for_turn {A : D → DEnv → Option DEnv} {f : DS} (I : List D → DEnv → Prop) (ds : List D) (δ : DEnv) (h : I [] δ)
    (st : ∀ (pre : List D) (d : D) (δ : DEnv), d ∈ ds → I pre δ → ∃ δ1 δ2, A d δ = some δ1 ∧ f δ1 = .nx δ2 ∧ I (pre ++ [d]) δ2) : ∃ δ', forL A f ds δ = .nx δ' ∧ I ds δ' := by
  obtain ⟨δ', e, i⟩ := for_inv (A := A) (f := f) I ds [] δ h fun pre d δ hd h => by
    obtain ⟨δ1, δ2, e1, e2, i2⟩ := st pre d δ hd h
    exact ⟨δ2, by rw [e1]; show fl2 A f [] (f δ1) = _; rw [e2]; rfl, i2, fun r => by rw [e1]; show fl2 A f r (f δ1) = _; rw [e2]; rfl⟩
  exact ⟨δ', e, i⟩
theorem for_pos {A : D → DEnv → Option DEnv} {f : DS} (I : List D → DEnv → Prop) (all : List D) : ∀ (ds pre : List D) (δ : DEnv), all = pre ++ ds → I pre δ →
    (∀ (pre : List D) (d : D) (r : List D) (δ : DEnv), all = pre ++ d :: r → I pre δ → ∃ δ1 δ2, A d δ = some δ1 ∧ f δ1 = .nx δ2 ∧ I (pre ++ [d]) δ2) → ∃ δ', forL A f ds δ = .nx δ' ∧ I all δ'
  | [], pre, δ, e, h, _ => ⟨δ, rfl, by rw [e, List.append_nil]; exact h⟩
  | d :: ds, pre, δ, e, h, st => by
    obtain ⟨δ1, δ2, e1, e2, i2⟩ := st pre d ds δ e h
    obtain ⟨δ', e3, i3⟩ := for_pos I all ds (pre ++ [d]) δ2 (by rw [e, List.append_assoc]; rfl) i2 st
    exact ⟨δ', by rw [f_cons, e1]; show fl2 A f ds (f δ1) = _; rw [e2]; exact e3, i3⟩
/-! ### stores -/
def pvK (j : Nat) (d : D) (δ : DEnv) : Option Sl → Option DEnv
  | some (.own _) => some (δ.set j (.own d))
  | some (.rf _) => some (δ.set j (.rf d))
  | _ => none
def spK4 (j : Nat) (ds : List D) (v : D) (δ : DEnv) : Option Nat → SO
  | some m => oNx (putV j (.lst (ds.set m v)) δ)
  | none => .st
def spK3 (j : Nat) (v i : D) (δ : DEnv) : Option D → SO
  | some (.lst ds) => (match i with | .int n => spK4 j ds v δ (ixN ds.length n) | _ => .st)
  | _ => .st
def spK2 (j : Nat) (v : D) : EO D → SO
  | .ok i δ => spK3 j v i δ (look δ j)
  | .ex c n d δ => .ex c n d δ
  | .st => .st
def spK1 (j : Nat) (fi : DE) (v : D) (δ : DEnv) : Option D → SO
  | some _ => spK2 j v (fi δ)
  | none => .st
def spK (j : Nat) (fi : DE) : EO D → SO
  | .ok v δ => spK1 j fi v δ (look δ j)
  | .ex c n d δ => .ex c n d δ
  | .st => .st
section
variable (j : Nat) (fe fi : DE) (δ : DEnv) (v i d : D) (ds : List D) (n : Int) (m : Nat)
theorem a_putV : putV j d δ = pvK j d δ δ[j]? := by
  unfold putV pvK
  cases δ[j]? with
  | none => rfl
  | some s => cases s <;> rfl
theorem a_pv0 : pvK j d δ (some (.own v)) = some (δ.set j (.own d)) := rfl
theorem a_pv1 : pvK j d δ (some (.rf v)) = some (δ.set j (.rf d)) := rfl
theorem a_put : sPut j fe fi δ = spK j fi (fe δ) := by
  unfold sPut
  cases fe δ with
  | ok v δ1 =>
    show (match look δ1 j with | some _ => _ | none => _) = spK1 j fi v δ1 (look δ1 j)
    cases look δ1 j with
    | none => rfl
    | some d =>
      show (fi δ1).to _ = spK2 j v (fi δ1)
      cases fi δ1 with
      | ok i δ2 =>
        show (match look δ2 j, i with | some (.lst ds), .int n => _ | _, _ => _) = spK3 j v i δ2 (look δ2 j)
        cases look δ2 j with
        | none => rfl
        | some x =>
          cases x with
          | lst ds =>
            cases i with
            | int n => show (match ixN ds.length n with | some m => _ | none => _) = spK4 j ds v δ2 (ixN ds.length n); cases ixN ds.length n <;> rfl
            | _ => rfl
          | _ => rfl
      | ex c n d δ => rfl
      | st => rfl
  | ex c n d δ => rfl
  | st => rfl
theorem a_sp0 : spK j fi (.ok v δ) = spK1 j fi v δ (look δ j) := rfl
theorem a_sp1 : spK1 j fi v δ (some d) = spK2 j v (fi δ) := rfl
theorem a_sp2 : spK2 j v (.ok i δ) = spK3 j v i δ (look δ j) := rfl
theorem a_sp3 : spK3 j v (.int n) δ (some (.lst ds)) = spK4 j ds v δ (ixN ds.length n) := rfl
theorem a_sp4 : spK4 j ds v δ (some m) = oNx (putV j (.lst (ds.set m v)) δ) := rfl
end
def saK3 (j : Nat) (v : D) (δ : DEnv) : Option D → SO
  | some (.lst ds) => if ds.length < sizeLine then oNx (putV j (.lst (ds ++ [v])) δ) else .st
  | _ => .st
def saK2 (j : Nat) : EO D → SO
  | .ok v δ => saK3 j v δ (look δ j)
  | .ex c n d δ => .ex c n d δ
  | .st => .st
def saK1 (j : Nat) (fe : DE) (δ : DEnv) : Option D → SO
  | some (.lst _) => saK2 j (fe δ)
  | _ => .st
section
variable (j : Nat) (fe : DE) (δ : DEnv) (v : D) (ds : List D)
theorem a_app : sApp j fe δ = saK1 j fe δ (look δ j) := by
  unfold sApp
  cases look δ j with
  | none => rfl
  | some d =>
    cases d with
    | lst es =>
      show (fe δ).to _ = saK2 j (fe δ)
      cases fe δ with
      | ok v δ1 =>
        show (match look δ1 j with | some (.lst ds) => _ | _ => _) = saK3 j v δ1 (look δ1 j)
        cases look δ1 j with
        | none => rfl
        | some x => cases x <;> rfl
      | ex c n d δ => rfl
      | st => rfl
    | _ => rfl
theorem a_sa1 : saK1 j fe δ (some (.lst ds)) = saK2 j (fe δ) := rfl
theorem a_sa2 : saK2 j (.ok v δ) = saK3 j v δ (look δ j) := rfl
theorem a_sa3 (h : ds.length < sizeLine) : saK3 j v δ (some (.lst ds)) = oNx (putV j (.lst (ds ++ [v])) δ) := if_pos h
end
def auK (i : Nat) (g : D → D → Option D) (fe : DE) (δ : DEnv) : Option Sl → SO
  | some (.val x) => sK (kAug i g x) (fe δ)
  | _ => .st
theorem a_aug (i : Nat) (g : D → D → Option D) (fe : DE) (δ : DEnv) : sAug i g fe δ = auK i g fe δ δ[i]? := by
  unfold sAug auK
  cases δ[i]? with
  | none => rfl
  | some s =>
    cases s with
    | val x => show (fe δ).to _ = sK (kAug i g x) (fe δ); cases fe δ <;> rfl
    | _ => rfl
theorem a_au1 (i : Nat) (g : D → D → Option D) (fe : DE) (δ : DEnv) (x : D) : auK i g fe δ (some (.val x)) = sK (kAug i g x) (fe δ) := rfl
def au2 (i : Nat) (δ : DEnv) : Option D → SO
  | some z => oNx (setV i z δ)
  | none => .st
theorem a_au2 (i : Nat) (g : D → D → Option D) (x y : D) (δ : DEnv) : kAug i g x y δ = au2 i δ (g x y) := by unfold kAug au2; cases g x y <;> rfl
theorem a_au3 (i : Nat) (z : D) (δ : DEnv) : au2 i δ (some z) = oNx (setV i z δ) := rfl
/-! ### comprehensions -/
inductive All2 {α β : Type} (R : α → β → Prop) : List α → List β → Prop
  | nil : All2 R [] []
  | cons {a : α} {b : β} {as : List α} {bs : List β} : R a b → All2 R as bs → All2 R (a :: as) (b :: bs)
theorem All2.len {α β : Type} {R : α → β → Prop} : ∀ {as : List α} {bs : List β}, All2 R as bs → bs.length = as.length
  | _, _, .nil => rfl
  | _, _, .cons _ t => congrArg (· + 1) t.len
section
variable (A : D → DEnv → Option DEnv) (t : DT) (el : DE) (vs : List Nat)
theorem c_turn {d : D} {ds : List D} {δ δ1 δ2 δ3 : DEnv} {acc : List D} {x : D} (hv : vsFree vs δ = true) (h1 : A d (blkEnv vs δ) = some δ1) (h2 : t δ1 = .ok true δ2) (h3 : el δ2 = .ok x δ3) (hl : acc.length < sizeLine) :
    compL A t el vs (d :: ds) δ acc = compL A t el vs ds (backEnv δ δ3) (acc ++ [x]) := by
  show (if vsFree vs δ = true then _ else _) = _
  rw [if_pos hv, h1]
  show (match t δ1 with | .ok false δ2 => _ | .ok true δ2 => _ | _ => _) = _
  rw [h2]
  show (match el δ2 with | .ok x δ3 => _ | _ => _) = _
  rw [h3]
  exact if_pos hl
theorem c_skip {d : D} {ds : List D} {δ δ1 δ2 : DEnv} {acc : List D} (hv : vsFree vs δ = true) (h1 : A d (blkEnv vs δ) = some δ1) (h2 : t δ1 = .ok false δ2) :
    compL A t el vs (d :: ds) δ acc = compL A t el vs ds (backEnv δ δ2) acc := by
  show (if vsFree vs δ = true then _ else _) = _
  rw [if_pos hv, h1]
  show (match t δ1 with | .ok false δ2 => _ | .ok true δ2 => _ | _ => _) = _
  rw [h2]
/-- nothing is changed outside -/
theorem comp_map {δ : DEnv} (p : D → Bool) (g : D → D) (hv : vsFree vs δ = true) : ∀ (ds acc : List D), acc.length + ds.length ≤ sizeLine →
    (∀ d ∈ ds, ∃ δ1 δ2, A d (blkEnv vs δ) = some δ1 ∧ t δ1 = .ok (p d) δ2 ∧ (p d = false → backEnv δ δ2 = δ) ∧ (p d = true → ∃ δ3, el δ2 = .ok (g d) δ3 ∧ backEnv δ δ3 = δ)) →
    compL A t el vs ds δ acc = .ok (.lst (acc ++ (ds.filter p).map g)) δ
  | [], acc, _, _ => by show EO.ok (D.lst acc) δ = _; simp
  | d :: ds, acc, hl, h => by
    obtain ⟨δ1, δ2, h1, h2, h3, h4⟩ := h d List.mem_cons_self
    have hl' : acc.length + (ds.length + 1) ≤ sizeLine := hl
    cases q : p d with
    | false =>
      rw [q] at h2
      rw [c_skip A t el vs hv h1 h2, h3 q, comp_map p g hv ds acc (by omega) fun d hd => h d (List.mem_cons_of_mem _ hd), List.filter_cons, q]
      rfl
    | true =>
      rw [q] at h2
      obtain ⟨δ3, h5, h6⟩ := h4 q
      rw [c_turn A t el vs hv h1 h2 h5 (by omega), h6, comp_map p g hv ds (acc ++ [g d]) (by rw [List.length_append]; show acc.length + 1 + ds.length ≤ _; omega) fun d hd => h d (List.mem_cons_of_mem _ hd), List.filter_cons, q]
      simp
/-- a thing that is drawn from is changed outside: Δ x is the state where it holds x -/
theorem comp_draw {Δ : D → DEnv} (J : D → Prop) (R : D → D → Prop) (hv : ∀ x, vsFree vs (Δ x) = true) : ∀ (ds acc : List D) (x : D), J x → acc.length + ds.length ≤ sizeLine →
    (∀ d ∈ ds, ∀ x, J x → ∃ y x' δ1 δ2 δ3, A d (blkEnv vs (Δ x)) = some δ1 ∧ t δ1 = .ok true δ2 ∧ el δ2 = .ok y δ3 ∧ backEnv (Δ x) δ3 = Δ x' ∧ J x' ∧ R d y) →
    ∃ ys x', compL A t el vs ds (Δ x) acc = .ok (.lst (acc ++ ys)) (Δ x') ∧ J x' ∧ All2 R ds ys
  | [], acc, x, hx, _, _ => ⟨[], x, by rw [List.append_nil]; rfl, hx, .nil⟩
  | d :: ds, acc, x, hx, hl, h => by
    obtain ⟨y, x1, δ1, δ2, δ3, h1, h2, h3, h4, j1, r1⟩ := h d List.mem_cons_self x hx
    have hl' : acc.length + (ds.length + 1) ≤ sizeLine := hl
    obtain ⟨ys, x2, e, j2, r2⟩ := comp_draw J R hv ds (acc ++ [y]) x1 j1 (by rw [List.length_append]; show acc.length + 1 + ds.length ≤ _; omega) fun d hd => h d (List.mem_cons_of_mem _ hd)
    exact ⟨y :: ys, x2, by rw [c_turn A t el vs (hv x) h1 h2 h3 (by omega), h4, e]; simp, j2, .cons r1 r2⟩
end
/-- the block's slots, one by one -/
def bk1 (vs : List Nat) (i : Nat) (s : Sl) : Sl := if i ∈ vs then .un else match s with
  | .own d => .rf d
  | s => s
def blkG (vs : List Nat) : Nat → DEnv → DEnv
  | _, [] => []
  | n, s :: δ => bk1 vs n s :: blkG vs (n + 1) δ
def bk2 (s t : Sl) : Sl := if isO s then (match t.cont with | some d => s.put d | none => s) else s
def backG : DEnv → DEnv → DEnv
  | [], _ => []
  | s :: δ, t :: δ' => bk2 s t :: backG δ δ'
  | s :: δ, [] => s :: backG δ []
theorem blkG_at (vs : List Nat) : ∀ (δ : DEnv) (n i : Nat), (blkG vs n δ)[i]? = δ[i]?.map fun s => bk1 vs (n + i) s
  | [], n, i => rfl
  | s :: δ, n, 0 => rfl
  | s :: δ, n, i + 1 => by
    show (blkG vs (n + 1) δ)[i]? = δ[i]?.map _
    rw [blkG_at vs δ (n + 1) i, show n + 1 + i = n + (i + 1) by omega]
theorem blk_eq (vs : List Nat) (δ : DEnv) : blkEnv vs δ = blkG vs 0 δ := by
  refine List.ext_getElem? fun i => ?_
  rw [blkG_at]
  by_cases hi : i < δ.length
  · rw [blkEnv_at hi, List.getElem?_eq_getElem hi, Nat.zero_add]; rfl
  · rw [List.getElem?_eq_none (show (blkEnv vs δ).length ≤ i by simp [blkEnv]; omega), List.getElem?_eq_none (show δ.length ≤ i by omega)]; rfl
theorem backG_at : ∀ (δ δ' : DEnv) (i : Nat), (backG δ δ')[i]? = δ[i]?.map fun s => match δ'[i]? with | some t => bk2 s t | none => s
  | [], δ', i => by cases δ' <;> rfl
  | s :: δ, t :: δ', 0 => rfl
  | s :: δ, [], 0 => rfl
  | s :: δ, t :: δ', i + 1 => backG_at δ δ' i
  | s :: δ, [], i + 1 => by
    show (backG δ [])[i]? = δ[i]?.map _
    rw [backG_at δ [] i]; rfl
theorem back_eq (δ δ' : DEnv) : backEnv δ δ' = backG δ δ' := by
  refine List.ext_getElem? fun i => ?_
  rw [backG_at]
  by_cases hi : i < δ.length
  · rw [backEnv_at hi, List.getElem?_eq_getElem hi]
    show some _ = some _
    congr 1
    unfold bk2
    cases δ'[i]? with
    | none => cases isO δ[i] <;> rfl
    | some t => rfl
  · rw [List.getElem?_eq_none (show (backEnv δ δ').length ≤ i by simp [backEnv]; omega), List.getElem?_eq_none (show δ.length ≤ i by omega)]; rfl
theorem opn (ks : List Bool) (ds : List D) (n : Nat) (F : DS) (h : ds.length = ks.length) : defF ks n F ds = toFO ks (F (mkEnv ks ds n)) := if_pos h
theorem ct_rf (x : D) : (Sl.rf x).cont = some x := rfl
theorem ct_own (x : D) : (Sl.own x).cont = some x := rfl
theorem gEq_int (a b : Int) : gEq false (.int a) (.int b) = some (.bl (a == b)) := rfl
theorem gNe_int (a b : Int) : gEq true (.int a) (.int b) = some (.bl (!(a == b))) := rfl
end DL

set_option maxRecDepth 100000
set_option maxHeartbeats 1000000
namespace DL
open PySem PySem.Spec PyProof.Rows L2
/-- ints, bools, None in lists and tuples, at most n within one another -/
def Pd : Nat → D → Prop
  | _, .int _ => True
  | _, .bl _ => True
  | _, .non => True
  | n + 1, .lst ds => ∀ d ∈ ds, Pd n d
  | n + 1, .tup ds => ∀ d ∈ ds, Pd n d
  | _, _ => False
theorem pd_all (n : Nat) (ih : ∀ d, Pd n d → ∃ p, toPy d = some p ∧ p.canLay0 = true ∧ p.depth ≤ n + 1) : ∀ (ds : List D), (∀ d ∈ ds, Pd n d) → ∃ ps, toPyL ds = some ps ∧ PyData.canLayAll0 ps = true ∧ PyData.depthAll ps ≤ n + 1
  | [], _ => ⟨[], by simp [toPyL], by simp [PyData.canLayAll0], by simp [PyData.depthAll]⟩
  | d :: ds, h => by
    obtain ⟨p, e1, c1, d1⟩ := ih d (h d List.mem_cons_self)
    obtain ⟨ps, e2, c2, d2⟩ := pd_all n ih ds fun x hx => h x (List.mem_cons_of_mem _ hx)
    refine ⟨p :: ps, by simp [toPyL, e1, e2], by simp [PyData.canLayAll0, c1, c2], ?_⟩
    simp only [PyData.depthAll]
    omega
theorem pd_py (n : Nat) : ∀ (d : D), Pd n d → ∃ p, toPy d = some p ∧ p.canLay0 = true ∧ p.depth ≤ n + 1 := by
  induction n with
  | zero =>
    intro d h
    cases d with
    | int i => exact ⟨.int i, by simp [toPy], by simp [PyData.canLay0], by simp [PyData.depth]⟩
    | bl i => exact ⟨.bool i, by simp [toPy], by simp [PyData.canLay0], by simp [PyData.depth]⟩
    | non => exact ⟨.none, by simp [toPy], by simp [PyData.canLay0], by simp [PyData.depth]⟩
    | _ => exact h.elim
  | succ n ih =>
    intro d h
    cases d with
    | int i => exact ⟨.int i, by simp [toPy], by simp [PyData.canLay0], by simp [PyData.depth]⟩
    | bl i => exact ⟨.bool i, by simp [toPy], by simp [PyData.canLay0], by simp [PyData.depth]⟩
    | non => exact ⟨.none, by simp [toPy], by simp [PyData.canLay0], by simp [PyData.depth]⟩
    | lst ds =>
      obtain ⟨ps, e, c, dd⟩ := pd_all n ih ds h
      exact ⟨.list ps, by simp [toPy, e], by simpa [PyData.canLay0] using c, by simp only [PyData.depth]; omega⟩
    | tup ds =>
      obtain ⟨ps, e, c, dd⟩ := pd_all n ih ds h
      exact ⟨.tuple ps, by simp [toPy, e], by simpa [PyData.canLay0] using c, by simp only [PyData.depth]; omega⟩
    | _ => exact h.elim
theorem gEq_refl {n : Nat} {d : D} (h : Pd n d) (hn : n ≤ 60) : gEq false d d = some (.bl true) := by
  obtain ⟨p, e, c, dd⟩ := pd_py n d h
  unfold gEq
  rw [e]
  have s : SeqAt.shaped p = true := by
    unfold SeqAt.shaped
    rw [c, decide_eq_true (show p.depth ≤ 64 by omega)]; rfl
  show (if SeqAt.shaped p = true ∧ SeqAt.shaped p = true then _ else _) = _
  rw [if_pos ⟨s, s⟩]
  show some (D.bl (PyData.eqv p p)) = _
  rw [SeqAt.eqv_refl p c]
end DL

set_option maxRecDepth 100000
set_option maxHeartbeats 1000000
namespace DL
open PySem PySem.Spec PyProof.Rows L2
def strsD : List D → Option (List Str)
  | [] => some []
  | .str x :: r => (strsD r).map (x :: ·)
  | _ :: _ => none
theorem strs_ok {K : PySem.W.Frag} {cl : Cw} {G : Hp} : ∀ {ds : List D} {bs : List Str} {vs : List V}, strsD ds = some bs → RepL K cl G vs ds → vs = bs.map V.str
  | [], bs, vs, e, r => by cases e; cases r; rfl
  | d :: ds, bs, vs, e, r => by
    cases r with
    | cons h t =>
      cases h with
      | str b =>
        simp only [strsD, Option.map_eq_some_iff] at e
        obtain ⟨bs', e1, rfl⟩ := e
        rw [strs_ok e1 t]; rfl
      | _ => cases e
def joinS (a : Str) (ds : List D) : Option D := (strsD ds).bind fun ys => if (ys.map (·.length)).sum + ys.length * a.length ≤ 16777216 then some (.str (Txt.join a ys)) else none
def gJoin (a : Str) : D → Option D
  | .lst ds => joinS a ds
  | .tup ds => joinS a ds
  | _ => none
theorem join_of {a : Str} {ds : List D} {z : D} (h : joinS a ds = some z) : ∃ ys, strsD ds = some ys ∧ (ys.map (·.length)).sum + ys.length * a.length ≤ 16777216 ∧ z = .str (Txt.join a ys) := by
  unfold joinS at h
  rw [Option.bind_eq_some_iff] at h
  obtain ⟨ys, e, h⟩ := h
  by_cases hz : (ys.map (·.length)).sum + ys.length * a.length ≤ 16777216
  · rw [if_pos hz] at h; cases h; exact ⟨ys, e, hz, rfl⟩
  · rw [if_neg hz] at h; cases h
section
variable {c : Cf} {X : Cx} {e : Expr} {fe : DE} {p ap pos : Pos} {a : Str} {j : Nat}
theorem je_joinC (he : JE c X e fe) (hs : starEach [e] X.env = [(false, eval e X.env)] := by rfl) (hbase : attributeBase (.Constant (.str a) j p) "join" X.env (eval (.Constant (.str a) j p) X.env) = eval (.Constant (.str a) j p) X.env := by rfl) (hline : (ap.endLine == pos.line) = true := by rfl) :
    JE c X (.Call (.Attribute (.Constant (.str a) j p) "join" ap) [e] [] pos) (dUn (gJoin a) fe) := by
  refine je_of (pe_join pe_str (peS X e) hs hbase hline) fun R H0 G0 H G σ δ Q k h => ?_
  refine ⟨⟨a, rfl⟩, he R H0 G0 H G σ δ _ k (EPost.imp (EPost.bind h) fun x H1 ⟨G1, d, δ1, s1, k1, r1, h1⟩ => ?_)⟩
  cases q : gJoin a d with
  | none => rw [q] at h1; exact h1.elim
  | some z =>
    rw [q] at h1
    cases r1 with
    | @lst b xs ds h2 r =>
      obtain ⟨ys, e1, e2, rfl⟩ := join_of (show joinS a ds = some z from q)
      have := strs_ok e1 r
      subst this
      exact ⟨a, b, ys, rfl, rfl, .inl (.inl (.inl (k1.sub _ _ h2))), e2, h1 _ H1 G1 (.refl G1) k1 (.str _)⟩
    | @tup b xs ds h2 r =>
      obtain ⟨ys, e1, e2, rfl⟩ := join_of (show joinS a ds = some z from q)
      have := strs_ok e1 r
      subst this
      exact ⟨a, b, ys, rfl, rfl, .inr (.inl (.inl (k1.sub _ _ h2))), e2, h1 _ H1 G1 (.refl G1) k1 (.str _)⟩
    | _ => cases q
theorem jf_dict0 : JF c X (.Dict [] [] pos) (dC (.dct [] [])) := fun R H0 G0 H G σ δ Q k h pins s I => by
  refine pe_dnewK.run pins s σ H Q I fun q nq => ?_
  have gr := Grow.fresh k.sub nq (.dK [])
  exact h q _ _ gr.gk (k.grow gr) (k.freshG nq) (k.freshH0 nq) ⟨[], upd_same, rfl, .nil⟩ fun j t e o' => k.freshSl nq e o'
end
end DL

set_option maxRecDepth 100000
set_option maxHeartbeats 4000000
/-! a comprehension whose element may raise -/
namespace DL
open PySem PySem.Spec PyProof.Rows L2
open HandSPX (HeldZ TracedZ FlyingZ)
section
variable {M : Model} {A : Around} {E : Value → Shared → Prop} {s : Shared} {Z : Obj → Prop} {B : Heap} {v : Env} {out : List Env} {L J a : Addr}
theorem rawNe {i j : Addr} (h : i ≠ j) : (rawInt (i : Int) == rawInt (j : Int)) = false := by
  apply beq_eq_false_iff_ne.mpr
  intro e
  have e2 : ((i : Int)) = (j : Int) := by
    injection e
  exact h (by exact_mod_cast e2)
/-- noted by another's mark, now by this frame's -/
theorem markOn {Q : Unit → Shared → Prop} (st : HandSPX.Steady Z) (hA : A.frames = some (v :: out)) (hv : v.frame = some L) (ne : J ≠ L) (x : HeldZ B (v :: out) a Z J s.heap)
    (k : ∀ h2, HeldZ B (v :: out) a Z L h2 → s.heap.UpToSlots h2 → Q () { s with heap := h2 }) : wpAny M A (noteFrame (.ref a) v) Q E s := by
  obtain ⟨b1, b2, b3, o1, f1, R, o2, f2, e1, z1, d1, i1, nR, Ra, e2, d2, i3⟩ := x
  unfold noteFrame
  simp only [hv]
  refine wpAny_bind (wpAny_field e1 d1 i1 ?_)
  have c1 : (Value.ref R != Value.none) = true := by simp
  rw [if_pos c1]
  refine wpAny_bind (wpAny_field e2 d2 i3 ?_)
  have c2 : ¬ (rawInt (J : Int) == rawInt (L : Int)) = true := by rw [rawNe ne]; decide
  rw [if_neg c2]
  have l3 : 3 < f2.size := (Array.getElem?_eq_some_iff.mp i3).1
  refine wpAny_bind (wpAny_setField e2 d2 l3 ?_)
  have off : ∀ c, c ≠ R → (s.heap.update R (Obj.mapFields (·.setIfInBounds 3 Value.none))).get? c = s.heap.get? c := fun c hc => Heap.get?_update_other _ _ hc.symm
  have plain : ∀ c o, s.heap.get? c = some o → (∀ fs, o.data ≠ .fields fs) → c ≠ R := fun c o q n z => by
    rw [z, e2] at q
    cases q
    exact n f2 d2
  have fr2 : (s.heap.update R (Obj.mapFields (·.setIfInBounds 3 Value.none))).FunFrames B (v :: out) := b3.of_keeps fun c o q n => ⟨o, by rw [off c (plain c o q n)]; exact q, rfl⟩
  have st2 : B.StaysIn (s.heap.update R (Obj.mapFields (·.setIfInBounds 3 Value.none))) := fun c o q => by
    rw [off c fun z => by rw [z, nR] at q; cases q]
    exact b1 c o q
  have l1 : 1 < f1.size := (Array.getElem?_eq_some_iff.mp i1).1
  refine HandSPX.wpAny_entryZ st hA fr2 hv (by rw [off a Ra.symm]; exact e1) st2 b2 d1 l1 z1 fun h2 ⟨n1, n2, n3, n4⟩ => ?_
  refine k h2 ⟨n1, b2, n2, n3⟩ fun c o q n => n4 c o ?_ n
  rw [off c (plain c o q n)]
  exact q
/-- whatever it was: noted by this frame -/
theorem skyNote {Q : Unit → Shared → Prop} (st : HandSPX.Steady Z) (hA : A.frames = some (v :: out)) (hv : v.frame = some L) (x : Sky B (v :: out) a Z J s.heap)
    (k : ∀ h2, HeldZ B (v :: out) a Z L h2 → s.heap.UpToSlots h2 → Q () { s with heap := h2 }) : wpAny M A (noteFrame (.ref a) v) Q E s := by
  rcases x with ⟨x1, x2, x3, oe, fs, x4, x5, x6, x7⟩ | x | x
  · exact HandSPX.look_newZ st hA x3 hv x4 x1 x2 x6 x7 x5 k
  · exact HandSPX.looks_onZ st hA hv x k
  · by_cases e : J = L
    · subst e
      exact HandSPX.againZ hv x.2.2.2 (k s.heap x (.refl _))
    · exact markOn st hA hv e x k
theorem passUp {what : String} {l : List Env} {e : Env} (he : e.frame = some L) (x : HeldZ B l a Z L s.heap) (k : ∀ h2, HeldZ B l a Z L h2 → s.heap.UpToSlots h2 → E (.ref a) { s with heap := h2 }) :
    wpAny M A (PySem.passOn what (.ref a) e : Sem Value) (fun _ _ => False) E s := by
  have y := x
  obtain ⟨_, _, _, o1, f1, R, _, _, e1, _, d1, i1, _⟩ := y
  unfold PySem.passOn
  refine wpAny_bind (wpAny_field e1 d1 i1 ?_)
  have c1 : ¬ (Value.ref R == Value.none) = true := by simp
  rw [if_neg c1, he]
  refine wpAny_bind ?_
  exact HandSPX.setFlight_onZ x fun h2 y u => wpAny_throw (k h2 y u)
end
theorem framesTo {B B' h h' : Heap} : ∀ {l : List Env}, h.FunFrames B l → (∀ b, b ∈ frs l → ∀ o, h.get? b = some o → ∃ o', h'.get? b = some o' ∧ o'.data = o.data) → (∀ b, B.get? b = none → B'.get? b = none) → h'.FunFrames B' l
  | [], _, _, _ => trivial
  | e :: l, ⟨x1, ⟨L, o, x2, x3, x4, x5⟩, x6⟩, k, kb => by
    have hin : frs (e :: l) = L :: frs l := by show List.filterMap _ _ = _; rw [List.filterMap_cons, x2]; rfl
    obtain ⟨o', q, dd⟩ := k L (by rw [hin]; exact List.mem_cons_self) o x4
    exact ⟨x1, ⟨L, o', x2, kb L x3, q, fun fs => by rw [dd]; exact x5 fs⟩, framesTo x6 (fun b hb => k b (by rw [hin]; exact List.mem_cons_of_mem _ hb)) kb⟩
/-- behind the block: what is made, or what flies on -/
def outR (M : Model) (A : Around) (E : Value → Shared → Prop) (u : Option (Value → Sem Unit)) (Q : Value → Shared → Prop) (acc : Value) (ce : Env) : Result → Shared → Prop
  | .ok f => compPost M A E u Q acc ce.locals (.ok f)
  | .error x => fun t => ∃ m, t.heap.Ns ce.locals m ∧ ∀ h2, Heap.SameBut ce.locals t.heap h2 → wpAny M A (PySem.passOn "comprehension.variables-let-go" x ce : Sem Value) (fun _ _ => False) E { t with heap := h2 }
theorem compRule {M : Model} {A : Around} {E : Value → Shared → Prop} {s : Shared} {env : Env} {e : Expr} {sc : Scope} {p : Pos} {fresh first : Sem Value} {g : Comprehension} {gs : List Comprehension} {cs : List (Str × Addr)} {u : Option (Value → Sem Unit)} {Q : Value → Shared → Prop}
    (h1 : clausesOf e = g :: gs) (h2 : ∀ x, foldedSetIterable g.iter env x = pure x) (h3 : closureFor sc env = pure cs) (h4 : sc.kind = .function) (h5 : ∀ y ∈ sc.names, y.2 = .local → sc.names.lookup y.1 = some .local)
    (h : wpAny M A first (fun x t1 => wpAny M A (pyIter x) (fun i t2 => wpAny M A fresh (fun acc t3 => wpAny M A (newFunctionEnv sc env.globals cs [] env.qual none .none (some env)) (fun ce t4 =>
      codeAny M A (.compStart e 0 i acc { ce with scope := relabel sc env }) (outR M A E u Q acc { ce with scope := relabel sc env }) t4) E t3) E t2) E t1) E s) :
    wpAny M A (comprehension e sc env p fresh false first u) Q E s := by
  unfold comprehension
  rw [h3, h1]
  refine wpAny_bind (wpAny_mono h (fun x t1 k1 => ?_) fun _ _ z => z)
  refine wpAny_bind (wpAny_standAt (wpAny_bind (wpAny_of_eq (h2 x) ?_)))
  refine wpAny_bind (wpAny_holding (wpAny_mono k1 (fun i t2 k2 => ?_) fun _ _ z => z))
  refine wpAny_standIf (wpAny_bind (wpAny_mono k2 (fun acc t3 k3 => ?_) fun _ _ z => z))
  refine wpAny_bind (wpAny_pure (wpAny_bind (wpAny_mono k3 (fun ce t4 k4 => ?_) fun _ _ z => z)))
  dsimp only
  have loc : ∀ y ∈ (sc.names.filter fun x => (x.2 == .local || x.2 == .cell) && x.1 != (".0" : Str)).reverse, y.2 = .local → Env.kindOf { ce with scope := relabel sc env } y.1 = some .local := fun y hy q => by
    refine lookup_relabel_local (h5 y ?_ q)
    exact (List.mem_filter.mp (List.mem_reverse.mp hy)).1
  refine wpAny_holding (wpAny_bind (wpAny_attempt (wpAny_holding (wpAny_run (codeAny_mono k4 fun r t5 k5 => ?_)))))
  cases r with
  | error x =>
    obtain ⟨m, hn, k6⟩ := k5
    refine wpAny_bind (wpAny_holding (wpAny_comp_letGo (cenv := { ce with scope := relabel sc env }) h4 _ t5 m loc hn fun h6 m6 _ sb => ?_))
    exact wpAny_mono (k6 h6 sb) (fun _ _ z => z.elim) fun _ _ z => z
  | ok f =>
    cases u with
    | none =>
      obtain ⟨m, hn, k6⟩ := k5
      refine wpAny_bind (wpAny_holding (wpAny_comp_letGo (cenv := { ce with scope := relabel sc env }) h4 _ t5 m loc hn fun h6 m6 _ sb => ?_))
      exact wpAny_pure (k6 h6 sb)
    | some put =>
      refine wpAny_bind (wpAny_rule (wpAny_bind (wpAny_holding (wpAny_mono k5 (fun _ t6 k6 => ?_) fun _ _ z => z))))
      obtain ⟨m, hn, k7⟩ := k6
      refine wpAny_bind (wpAny_comp_letGo (cenv := { ce with scope := relabel sc env }) h4 _ t6 m (fun y hy q => ?_) hn fun h6 m6 _ sb => wpAny_pure (k7 h6 sb))
      rcases List.mem_append.mp hy with z | z
      · exact loc y (List.mem_of_mem_drop z) q
      · exact loc y (List.mem_of_mem_take z) q
/-- an exception leaves the block for the air of X -/
theorem XE.out {X : Cx} {W : WX} {pins pn : List (Addr × Obj)} {σ : L2.St} {H3 : Hp} {s3 : Shared} {sc : Scope} {cs : List (Str × Addr)} {fp : List Addr} {xe : Value → Shared → Prop} {u : Option (Value → Sem Unit)} {Q : Value → Shared → Prop} {acc : Value} {y : Value} {t : Shared}
    (hst : X.stack = X.env :: X.outer) (hfr : X.env.frame = some X.env.locals) (tk : Takes X W) (I3 : Inv X pins σ H3 s3) (hfp : ∀ b ∈ fp, FpOk X pins H3 b)
    (xx : XE ((X.blk s3 H3 sc (compEnvC sc cs s3.heap.objs.size X.env) fp).tr pn xe) (fun cls d _ H => W cls d σ H) y t) :
    notedBy (model X.prog X.w) X.A (compEnvC sc cs s3.heap.objs.size X.env) (fun e t' => outR (model X.prog X.w) X.A X.xe u Q acc (compEnvC sc cs s3.heap.objs.size X.env) (.error e) t') y t := by
  obtain ⟨a, B, sI, pins2, σ2, H', cls, d, rfl, I, nb, up, sky, na, os, ag, w⟩ := xx
  have cn : H' s3.heap.objs.size = none := I.free
  have ck := I3.fpOk (Nat.le_refl _) cn
  have cfr : s3.heap.objs.size ∉ frs X.stack := fun z => by
    rcases List.mem_cons.mp (I3.stkSub _ z) with z | z
    · exact ck.2.1 z
    · exact ck.2.2.1 z
  have I7 : Inv X pins σ H' sI := I3.call' (ch := fp) I.os I.base I.hok I.bare fun b hb => ⟨(hfp b hb).2.2.2.1, (hfp b hb).2.1, (hfp b hb).2.2.2.2.1, (hfp b hb).2.2.2.2.2⟩
  obtain ⟨m, hn, _⟩ := I.loc
  have hn : sI.heap.Ns s3.heap.objs.size m := hn
  have hA : X.A.frames = some (X.env :: X.outer) := by rw [I3.ok.frames, hst]
  have sky : Sky B (X.env :: X.outer) a (Zc cls d) s3.heap.objs.size t.heap := by rw [← hst]; exact sky
  show wpAny _ _ (noteFrame (.ref a) X.env) _ _ t
  refine skyNote Zc.steady hA hfr sky fun h1 x1 u1 => ?_
  refine ⟨m, (up.trans u1).ns hn, fun h2 sb => ?_⟩
  have sb : Heap.SameBut s3.heap.objs.size h1 h2 := sb
  obtain ⟨oc, es, ep, hc, dc, _⟩ := (up.trans u1).ns hn
  have nC : ∀ b o fs, h1.get? b = some o → o.data = .fields fs → b ≠ s3.heap.objs.size := fun b o fs q dd z => by
    rw [z, hc] at q
    cases q
    rw [dc] at dd
    cases dd
  obtain ⟨B2, p1, p2⟩ := restrict B fun b => decide (b ≠ s3.heap.objs.size)
  have p1 : ∀ b, b ≠ s3.heap.objs.size → B2.get? b = B.get? b := fun b hb => p1 b (by simp [hb])
  have p2 : B2.get? s3.heap.objs.size = none := p2 _ (by simp)
  have pn2 : ∀ b, B.get? b = none → B2.get? b = none := fun b q => by
    by_cases z : b = s3.heap.objs.size
    · rw [z]; exact p2
    · rw [p1 b z]; exact q
  have x2 : HeldZ B2 (X.env :: X.outer) a (Zc cls d) X.env.locals h2 := by
    obtain ⟨y1, y2, y3, o1, f1, R, o2, f2, e1, z1, d1, i1, nR, Ra, e2, d2, i3⟩ := x1
    refine ⟨fun b o q => ?_, pn2 a y2, framesTo y3 (fun b hb o q => ⟨o, ?_, rfl⟩) pn2, o1, f1, R, o2, f2, ?_, z1, d1, i1, pn2 R nR, Ra, ?_, d2, i3⟩
    · have hb : b ≠ s3.heap.objs.size := fun z => by rw [z, p2] at q; cases q
      rw [sb.2 b hb]
      exact y1 b o (by rw [← p1 b hb]; exact q)
    · rw [sb.2 b fun z => cfr (by rw [hst, ← z]; exact hb)]
      exact q
    · rw [sb.2 a (nC a o1 f1 e1 d1)]; exact e1
    · rw [sb.2 R (nC R o2 f2 e2 d2)]; exact e2
  refine passUp hfr x2 fun h3 x3 u3 => ?_
  obtain ⟨G, g1, g2⟩ := restrict sI.heap fun b => decide (b ≠ s3.heap.objs.size)
  have g1 : ∀ b, b ≠ s3.heap.objs.size → G.get? b = sI.heap.get? b := fun b hb => g1 b (by simp [hb])
  have g2 : G.get? s3.heap.objs.size = none := g2 _ (by simp)
  have gC : ∀ b o, G.get? b = some o → b ≠ s3.heap.objs.size := fun b o q z => by rw [z, g2] at q; cases q
  refine tk _ _ ⟨a, B2, { sI with heap := G, toks := sI.toks }, pins, σ, H', cls, d, rfl, ?_, fun b o q hb => ?_, fun b o q n => ?_, .inr (.inr ?_), na, os, ag, w⟩
  · obtain ⟨f0, f1, f2, f3, f4, f5⟩ := ck
    exact I7.turned (fun b o hb q => by rw [g1 b hb]; exact q) f0 f1 f3 f4 f5
  · have hc2 := gC b o q
    rw [p1 b hc2]
    exact nb b o (by rw [← g1 b hc2]; exact q) hb
  · have hc2 := gC b o q
    obtain ⟨sl, q1⟩ := (up.trans u1) b o (by rw [← g1 b hc2]; exact q) n
    obtain ⟨sl2, q2⟩ := u3 b { o with slots := sl } ((sb.2 b hc2).trans q1) n
    exact ⟨sl2, q2⟩
  · rw [hst]; exact x3
end DL

set_option maxRecDepth 100000
set_option maxHeartbeats 4000000
/-! a comprehension whose element may raise: the whole block, then over deep values -/
namespace DL
open PySem PySem.Spec PyProof.Rows L2
def teX (X : Cx) (sc : Scope) (elt : Expr) (W : WX) : TE := fun σ H Q => ∀ (z : Shared) (H1 : Hp) (C : Addr) (cs : List (Str × Addr)) (fp : List Addr) (pn : List (Addr × Obj)) (xe : Value → Shared → Prop),
  Takes ((X.blk z H1 sc (compEnvC sc cs C X.env) fp).tr pn xe) W → tE ((X.blk z H1 sc (compEnvC sc cs C X.env) fp).tr pn xe) elt σ H Q
section
variable {X : Cx} {W : WX}
theorem compX {pins : List (Addr × Obj)} {s : Shared} {σ : L2.St} {H : Hp} {Q : VK} {elt tg iter : Expr} {ifs : List Expr} {sc : Scope} {own : List (Str × Nat)} {p p' : Pos} {wi : TI} {g : TG} {tt : TT} {u : Option (Value → Sem Unit)} {Qf : Value → Shared → Prop}
    (hst : X.stack = X.env :: X.outer) (hfr : X.env.frame = some X.env.locals) (tk : Takes X W) (calm : X.calm = true) (hN : X.N.Nodup) (I : Inv X pins σ H s) (hi : PI X tg iter wi) (ok : BlkOk X.N X.env.scope sc own)
    (pg : ∀ (z : Shared) (H1 : Hp) (C : Addr) (cs : List (Str × Addr)) (fp : List Addr), PG (X.blk z H1 sc (compEnvC sc cs C X.env) fp) tg g)
    (pt : ∀ (z : Shared) (H1 : Hp) (C : Addr) (cs : List (Str × Addr)) (fp : List Addr), PTs (X.blk z H1 sc (compEnvC sc cs C X.env) fp) ifs tt)
    (hs : ∀ x, foldedSetIterable iter X.env x = pure x) (h : tLc wi g tt (teX X sc elt fun cls d _ H1 => W cls d σ H1) (own.map (·.2)) σ H Q)
    (fin : ∀ D C t m H1, Inv X pins σ H1 t → Q (.ref D) H1 → t.heap.Ns C m → FpOk X pins H1 C → compPost (model X.prog X.w) X.A X.xe u Qf (.ref D) C (.ok .next) t) :
    wpAny (model X.prog X.w) X.A (comprehension (.ListComp elt [⟨tg, iter, ifs, 0⟩] sc p) sc X.env p' (newList []) false (eval iter X.env) u) Qf X.xe s := by
  have free : ∀ y ∈ sc.names, y.2 = .free → ∃ c, X.env.cells.lookup y.1 = some c := fun y hy e => (ok.free y hy e).elim (fun q => I.ok.has _ (.inl q)) fun q => I.ok.has _ (.inr q)
  refine compRule rfl hs (closure_ok free) ok.kind (fun y hy e => by rw [ok.uniq y hy, e]) (thn (hi.run pins s σ H _ I h) fun xv t1 q1 => thn q1 fun iv t2 q2 => ?_)
  obtain ⟨it, fp, tn, J, H2, rfl, I2, T, c2, f2, q⟩ := q2
  refine wpAny_newObj_type (newEnv_comp ?_) (Nat.zero_le sizeLine)
  generalize eD : t2.heap.objs.size = D
  have nD : H2 D = none := I2.hok.fresh (Nat.le_of_eq eD)
  obtain ⟨V, ⟨m0, v0⟩, turn⟩ := q D nD
  generalize e3 : ({ t2 with heap := t2.heap.push { cls := .type "list", data := .seq ([] : List Value).toArray } } : Shared) = t3
  have p3 : t3.heap = t2.heap.push { cls := .type "list", data := .seq ([] : List Value).toArray } := by rw [← e3]
  have I3 : Inv X pins σ (upd H2 D (.lst [])) t3 := by
    subst e3
    refine I2.laid (t' := t2.toks) (fun b o q => Heap.get?_push_of_some _ q) (Nat.le_of_eq eD) ⟨Nat.zero_le _, [], 0, .nil, ?_⟩
    subst eD
    exact (Heap.get?_push_size _ rfl)
  have low : ∀ b ∈ fp, b < t2.heap.objs.size := fun b hb => by
    obtain ⟨o, q, _⟩ := T.obj _ _ c2 b hb
    exact Heap.lt_size q
  have f3 : ∀ b ∈ fp, FpOk X pins (upd H2 D (.lst [])) b ∧ b < t3.heap.objs.size := fun b hb => by
    have lt := low b hb
    refine ⟨⟨(upd_ne (by rw [← eD]; exact Nat.ne_of_lt lt)).trans (f2 b hb).1, (f2 b hb).2⟩, ?_⟩
    rw [p3, Heap.size_push]
    exact Nat.lt_succ_of_lt lt
  have c3 : tn 0 t3.heap := T.keep _ _ _ c2 fun b _ o q => by rw [p3]; exact Heap.get?_push_of_some _ q
  have I4 := (block_start I3 ok hN f3)
  generalize eH : upd H2 D (.lst []) = H3 at I3 I4 v0 f3
  have nfp : ∀ b ∈ fp, H3 b = none := fun b hb => (f3 b hb).1.1
  generalize ecs : cellsFrom (t3.heap.objs.size + 1) sc.names (cloFrom X.env.cells sc.names []) = cs at I4
  generalize e4 : ({ t3 with heap := pushCells (t3.heap.push { cls := .type "dict", data := .dict #[] }) sc.names } : Shared) = t4 at I4
  have c4 : tn 0 t4.heap := T.keep _ _ _ c3 fun b _ o q => by rw [← e4]; exact pushCells_keeps _ _ _ _ (Heap.get?_push_of_some _ q)
  have still : ∀ {σ1 : L2.St} {H1 : Hp} {t : Shared}, Inv (X.blk t3 H3 sc (compEnvC sc cs t3.heap.objs.size X.env) fp) [] σ1 H1 t → (∀ b ∈ fp, H1 b = none) → ∀ b ∈ fp, FpOk (X.blk t3 H3 sc (compEnvC sc cs t3.heap.objs.size X.env) fp) [] H1 b :=
    fun {σ1 H1 t} K hz b hb => ⟨hz b hb, (K.ok.exf b hb).1, K.ok.exfs b hb, .inl hb, fun x c q => (K.ok.exf b hb).2 x c q, fun y hy => by cases hy⟩
  have go : codeAny (model X.prog X.w) X.A (.compLoop (.ListComp elt [⟨tg, iter, ifs, 0⟩] sc p) 0 (.ref it) (.ref D) (compEnvC sc cs t3.heap.objs.size X.env))
      (outR (model X.prog X.w) X.A X.xe u Qf (.ref D) (compEnvC sc cs t3.heap.objs.size X.env)) t4 := by
    refine compLoop_any (fun n t => ∃ i H1, Inv (X.blk t3 H3 sc (compEnvC sc cs t3.heap.objs.size X.env) fp) [] (wipe σ (own.map (·.2))) H1 t ∧ tn i t.heap ∧ (∀ b ∈ fp, H1 b = none) ∧ V i n H1) ?_ m0 ⟨0, H3, I4, c4, nfp, v0⟩
    rintro n t5 ⟨i, H5, I5, c5, z5, v5⟩
    rcases turn i n H5 v5 with ⟨stop, qq⟩ | ⟨on, Nx, hNx, step⟩
    · refine thnF (T.done (X.blk t3 H3 sc (compEnvC sc cs t3.heap.objs.size X.env) fp) rfl rfl rfl calm i [] t5 _ H5 (fun _ _ => False) I5 (still I5 z5) c5 stop) fun r t6 ⟨hr, I6⟩ => ?_
      cases hr
      have I7 : Inv X pins σ H5 t6 := I3.call' (ch := fp) I6.os I6.base I6.hok I6.bare fun b hb => ⟨(f3 b hb).1.2.2.2.1, (f3 b hb).1.2.1, (f3 b hb).1.2.2.2.2.1, (f3 b hb).1.2.2.2.2.2⟩
      have nC : H5 t3.heap.objs.size = none := I6.free
      obtain ⟨m, hn, _⟩ := I6.loc
      exact fin D t3.heap.objs.size t6 m H5 I7 qq hn (I3.fpOk (Nat.le_refl _) nC)
    · refine thnF (T.item (X.blk t3 H3 sc (compEnvC sc cs t3.heap.objs.size X.env) fp) rfl rfl rfl calm i [] t5 _ H5 (fun _ _ => False) I5 (still I5 z5) c5 on) fun r t6 ⟨x6, hr, k6⟩ => ?_
      cases hr
      refine thnF k6 fun _ t7 ⟨x, H7, I7, r7, y7, c7, z7⟩ => ?_
      have I8 := I7.pinned (still I7 z7) (T.obj _ _ c7)
      refine thnF ((pg _ _ _ cs fp).run _ t7 _ H7 x x6 _ I8 r7 (step x H7 y7)) fun _ t8 ⟨σ8, H8, I8, w8, q8⟩ => ?_
      refine thnF ((pt _ _ _ cs fp).run _ t8 σ8 H8 _ I8 q8) fun b t9 ⟨H9, I9, q9⟩ => ?_
      have back : ∀ {t : Shared} {H1 : Hp}, Inv (X.blk t3 H3 sc (compEnvC sc cs t3.heap.objs.size X.env) fp) ([] ++ pinsAt fp t7.heap) σ8 H1 t → Nx H1 → ∃ m, m < n ∧ ∃ i H1, Inv (X.blk t3 H3 sc (compEnvC sc cs t3.heap.objs.size X.env) fp) [] (wipe σ (own.map (·.2))) H1 t ∧ tn i t.heap ∧ (∀ b ∈ fp, H1 b = none) ∧ V i m H1 := fun {t H1} K nx => by
        obtain ⟨m1, hm, v1⟩ := hNx H1 nx
        have pins1 : ∀ b ∈ fp, ∀ o, t7.heap.get? b = some o → t.heap.get? b = some o ∧ H1 b = none := fun b hb o q => by
          have y := K.pin (b, o) (List.mem_append_right _ (List.mem_append_right _ (mem_pinsAt hb q)))
          exact ⟨y.1, y.2.1⟩
        refine ⟨m1, hm, i + 1, H1, (K.unpinned (pins := [])).weak (by rw [← w8, wipe_length]) (fun j y q => ?_), T.keep _ _ _ c7 fun b hb o q => (pins1 b hb o q).1, fun b hb => ?_, v1⟩
        · rw [← w8] at q; exact (wipe_some q).1
        · obtain ⟨o, q, _⟩ := T.obj _ _ c7 b hb
          exact (pins1 b hb o q).2
      cases b with
      | false => exact back I9 q9
      | true =>
        have q9 : teX X sc elt (fun cls d _ H1 => W cls d σ H1) σ8 H9 _ := q9
        show wpAny _ _ _ _ _ t9
        have el := q9 t3 H3 t3.heap.objs.size cs fp _ (notedBy (model X.prog X.w) X.A (compEnvC sc cs t3.heap.objs.size X.env) fun e t' => outR (model X.prog X.w) X.A X.xe u Qf (.ref D) (compEnvC sc cs t3.heap.objs.size X.env) (.error e) t')
          (fun y t xx => XE.out hst hfr tk I3 (fun b hb => (f3 b hb).1) xx) [] t9 (I9.toTry _)
        refine wpAny_mono el (fun zv t10 ⟨yv, H10, I10, r10, acc, hD10, hz10, nx⟩ => ?_) fun _ _ y => y
        exact app_ok (X := X.blk t3 H3 sc (compEnvC sc cs t3.heap.objs.size X.env) fp) (I10.ofTry I9.ok) hD10 hz10 r10 fun t11 I11 => back I11 nx
  show codeAny _ _ (.compStart _ 0 (.ref it) (.ref D) (compEnvC sc cs t3.heap.objs.size X.env)) (outR _ _ _ u Qf (.ref D) (compEnvC sc cs t3.heap.objs.size X.env)) t4
  exact codeAny_compStart_list go (T.self X.A 0 _ _ _ c4 go)
end
end DL

set_option maxRecDepth 100000
set_option maxHeartbeats 4000000
namespace DL
open PySem PySem.Spec PyProof.Rows L2
def compLX (A : D → DEnv → Option DEnv) (t : DT) (el : DE) (vs : List Nat) : List D → DEnv → List D → EO D
  | [], δ, acc => .ok (.lst acc) δ
  | d :: ds, δ, acc => if vsFree vs δ = true then match A d (blkEnv vs δ) with
      | none => .st
      | some δ1 => match t δ1 with
        | .ok false δ2 => compLX A t el vs ds (backEnv δ δ2) acc
        | .ok true δ2 => (match el δ2 with
          | .ok x δ3 => if acc.length < sizeLine then compLX A t el vs ds (backEnv δ δ3) (acc ++ [x]) else .st
          | .ex c ns es δ3 => .ex c ns es (backEnv δ δ3)
          | .st => .st)
        | _ => .st
    else .st
def dCompX (it : DI) (A : D → DEnv → Option DEnv) (t : DT) (el : DE) (vs : List Nat) : DE := fun δ => (it δ).bind fun ds δ1 => compLX A t el vs ds δ1 []
section
variable {c : Cf} {X : Cx} {tg e : Expr} {pos : Pos}
theorem lcX_ok {elt iter : Expr} {ifs : List Expr} {scope : Scope} {vs ts : List Nat} {it : DI} {A : D → DEnv → Option DEnv} {t : DT} {el : DE} (hi : JI c X tg iter it) (hts : ∀ i ∈ ts, i ∈ vs)
    (hg : ∀ (s : Shared) (H : Hp) (C : Addr) (cl : List (Str × Addr)) (fp : List Addr), JG c.nox (X.blk s H scope (compEnvC scope cl C X.env) fp) tg ts A)
    (ht : ∀ (s : Shared) (H : Hp) (C : Addr) (cl : List (Str × Addr)) (fp : List Addr), JTs c.nox (X.blk s H scope (compEnvC scope cl C X.env) fp) ifs t)
    (he : ∀ (W' : WX) (pn : List (Addr × Obj)) (xe : Value → Shared → Prop) (s : Shared) (H : Hp) (C : Addr) (cl : List (Str × Addr)) (fp : List Addr), Takes ((X.blk s H scope (compEnvC scope cl C X.env) fp).tr pn xe) W' → JE ⟨W', c.cl, c.hx⟩ ((X.blk s H scope (compEnvC scope cl C X.env) fp).tr pn xe) elt el)
    {R : List (Nat × Addr)} {H0 G0 H G : Hp} {σ : L2.St} {δ : DEnv} {Q : VK} (k : (c.fx X R H0 G0).Ok H G σ δ) (h : FPost (c.fx X R H0 G0) c.W σ G (dCompX it A t el vs δ) Q) :
    tLc (tI X tg iter) (bG X scope tg) (bT X scope ifs) (teX X scope elt fun cls d _ H1 => c.W cls d σ H1) vs σ H Q := by
  refine hi R H0 G0 H G σ δ _ k (EPost.imp (FPost.bind (rel := fun _ _ _ => True) h) fun J H1 ⟨G1, ds, δ1, s1, k1, w, h1⟩ => ?_)
  intro Dn nD
  refine ⟨fun i m H' => m = ds.length - i ∧ i ≤ ds.length ∧ ∃ G' δ' accV acc, Sub G1 G' ∧ (c.fx X R H0 G0).Ok H' G' σ δ' ∧ H' Dn = some (.lst accV) ∧ RepL X.K c.cl G' accV acc ∧ G' Dn = none ∧ H0 Dn = none ∧
    (∀ (j : Nat) (t : Sl), δ'[j]? = some t → isO t = true → σ[j]? ≠ some (some (.ref Dn))) ∧ FPost (c.fx X R H0 G0) c.W σ G' (compLX A t el vs (ds.drop i) δ' acc) Q, ⟨ds.length, by simp, Nat.zero_le _, G1, δ1, [], [], .refl G1, ?_, upd_same, .nil, k1.freshG nD, k1.freshH0 nD, fun j t e o => k1.freshSl nD e o, by rw [List.drop_zero]; exact h1⟩, ?_⟩
  · exact k1.grow (Grow.fresh k1.sub nD (.lst []))
  rintro i m H2 ⟨rfl, hi2, G2, δ2, accV, acc, s2, k2, hD, racc, gD, h0D, hsD, h2⟩
  obtain ⟨w1, w2⟩ := w H2 G2 s2 k2.sub i
  by_cases hlt : i < ds.length
  · refine .inr ⟨(w1 ds[i] (List.getElem?_eq_getElem hlt)).1, fun H' => i + 1 ≤ ds.length ∧ ∃ G' δ' accV acc, Sub G1 G' ∧ (c.fx X R H0 G0).Ok H' G' σ δ' ∧ H' Dn = some (.lst accV) ∧ RepL X.K c.cl G' accV acc ∧ G' Dn = none ∧ H0 Dn = none ∧
      (∀ (j : Nat) (t : Sl), δ'[j]? = some t → isO t = true → σ[j]? ≠ some (some (.ref Dn))) ∧ FPost (c.fx X R H0 G0) c.W σ G' (compLX A t el vs (ds.drop (i + 1)) δ' acc) Q, fun H' hN => ⟨ds.length - (i + 1), by omega, rfl, hN.1, hN.2⟩, fun x H3 y => ?_⟩
    obtain ⟨G3, gr, rx⟩ := (w1 ds[i] (List.getElem?_eq_getElem hlt)).2 x H3 y
    have k3 := k2.grow gr
    have hD3 : H3 Dn = some (.lst accV) := gr.hk _ _ hD
    have gD3 : G3 Dn = none := by
      cases e : G3 Dn with
      | none => rfl
      | some u =>
        rcases gr.gn Dn u e with z | z
        · rw [gD] at z; cases z
        · rw [hD] at z; cases z
    rw [List.drop_eq_getElem_cons hlt] at h2
    unfold compLX at h2
    cases hv : vsFree vs δ2 with
    | false => rw [hv] at h2; exact h2.elim
    | true =>
      rw [hv] at h2
      simp only [if_true] at h2
      cases q : A ds[i] (blkEnv vs δ2) with
      | none => simp only [q] at h2; exact h2.elim
      | some δ3 =>
        simp only [q] at h2
        have kb := k3.block hv
        intro ss HH CC cc ff
        refine hg ss HH CC cc ff (refsOf σ δ2) H3 G3 H3 G3 (wipe σ vs) (blkEnv vs δ2) δ3 x ds[i] _ kb rx q fun σ4 k4 hw => ?_
        have hw' : wipe σ4 vs = wipe σ vs := by
          rw [hw vs hts]
          have go : ∀ (l : List Nat), (∀ j ∈ l, j ∈ vs) → wipe (wipe σ vs) l = wipe σ vs := by
            intro l
            induction l with
            | nil => intro _; rfl
            | cons j l ih =>
              intro hl
              show (wipe (wipe σ vs) l).set j none = wipe σ vs
              rw [ih fun z hz => hl z (List.mem_cons_of_mem _ hz)]
              refine List.ext_getElem? fun n => ?_
              by_cases hn : j = n
              · subst hn
                by_cases hj : j < (wipe σ vs).length
                · rw [List.getElem?_set_self hj, wipe_in (hl j List.mem_cons_self) (by rw [wipe_length] at hj; exact hj)]
                · rw [List.getElem?_eq_none (by simpa using hj), List.getElem?_eq_none (by simpa using hj)]
              · rw [List.getElem?_set_ne hn]
          exact go vs fun _ z => z
        -- the turn's end
        have fin : ∀ {H5 G5 : Hp} {δ5 : DEnv}, Sub G3 G5 → DL.Ok X.K c.cl c.hx (refsOf σ δ2) H3 G3 H5 G5 σ4 δ5 → (c.fx X R H0 G0).Ok H5 G5 σ (backEnv δ2 δ5) ∧ H5 Dn = some (.lst accV) ∧ G5 Dn = none ∧ (∀ (j : Nat) (t : Sl), (backEnv δ2 δ5)[j]? = some t → isO t = true → σ[j]? ≠ some (some (.ref Dn))) := fun {H5 G5 δ5} s5 k5 => by
          obtain ⟨fr, k6⟩ := k3.unblock hv hw' k5
          refine ⟨k6, fr.kept _ _ hD3 fun hm => ?_, ?_, fun j u e o => ?_⟩
          · obtain ⟨p, hp, e⟩ := List.mem_map.mp hm
            obtain ⟨s, e1, o, e2⟩ := mem_refsOf.mp hp
            rw [e] at e2
            exact hsD p.1 s e1 o e2
          · cases e : G5 Dn with
            | none => rfl
            | some u =>
              rcases fr.new Dn u e with z | z
              · rw [gD3] at z; cases z
              · rw [hD3] at z; cases z
          · have hj : j < δ2.length := by
              have := (List.getElem?_eq_some_iff.mp e).1
              simpa [backEnv] using this
            have e0 := backEnv_at (δ' := δ5) hj
            rw [e] at e0
            have e0 := Option.some.inj e0
            refine hsD j δ2[j] (List.getElem?_eq_getElem hj) ?_
            cases ho : isO δ2[j] with
            | true => rfl
            | false => rw [ho] at e0; simp only [Bool.false_eq_true, if_false] at e0; rw [e0, ho] at o; cases o
        refine ⟨hw', ?_⟩
        intro ss2 HH2 CC2 cc2 ff2
        refine ht ss2 HH2 CC2 cc2 ff2 (refsOf σ δ2) H3 G3 H3 G3 σ4 δ3 _ k4 ?_
        cases q2 : t δ3 with
        | ok b δ4 =>
          intro b' H5 G5 s5 k5 rb
          have rb : b' = b := rb
          subst rb
          cases b' with
          | false =>
            simp only [q2] at h2
            simp only [Bool.false_eq_true, if_false]
            obtain ⟨k6, d6, g6, n6⟩ := fin s5 k5
            exact ⟨hlt, G5, _, accV, acc, (s2.trans gr.gk).trans s5, k6, d6, racc.mono (gr.gk.trans s5), g6, h0D, n6, FPost.weak (gr.gk.trans s5) h2⟩
          | true =>
            simp only [q2] at h2
            simp only [if_true]
            intro ss3 HH3 CC3 cc3 ff3 pn3 xe3 tk3
            refine he _ pn3 xe3 ss3 HH3 CC3 cc3 ff3 tk3 (refsOf σ δ2) H3 G3 H5 G5 σ4 δ4 _ k5 ?_
            cases q3 : el δ4 with
            | ok z δ5 =>
              simp only [q3] at h2
              intro y' H6 G6 s6 k6 ry
              by_cases hz : acc.length < sizeLine
              · rw [if_pos hz] at h2
                obtain ⟨k7, d7, g7, n7⟩ := fin (s5.trans s6) k6
                have sg := (gr.gk.trans s5).trans s6
                refine ⟨accV, d7, by rw [racc.length]; exact hz, hlt, G6, _, accV ++ [y'], acc ++ [z], (s2.trans sg), k7.updNew d7 g7 h0D n7, upd_same, (racc.mono sg).append (.cons ry .nil), g7, h0D, n7, FPost.weak sg h2⟩
              · rw [if_neg hz] at h2; exact h2.elim
            | ex cn ns es δ5 =>
              simp only [q3] at h2
              intro cls dd H6 G6 s6 k6 rx6
              exact h2 cls dd H6 G6 ((gr.gk.trans s5).trans s6) (fin (s5.trans s6) k6).1 rx6
            | st => simp only [q3] at h2; exact h2.elim
        | ex cn ns es δ4 => simp only [q2] at h2; exact h2.elim
        | st => simp only [q2] at h2; exact h2.elim
  · have e : i = ds.length := by omega
    rw [e, List.drop_eq_nil_of_le (Nat.le_refl _)] at h2
    exact .inl ⟨w2 e, h2 Dn H2 G2 (.refl G2) k2 gD h0D ⟨accV, hD, racc⟩ hsD⟩
theorem jf_compX {elt iter : Expr} {ifs : List Expr} {scope : Scope} {own : List (Str × Nat)} {ts : List Nat} {it : DI} {A : D → DEnv → Option DEnv} {t : DT} {el : DE} (hc : X.calm = true) (hN : X.N.Nodup) (hi : JI c X tg iter it) (ok : BlkOk X.N X.env.scope scope own)
    (hts : ∀ i ∈ ts, i ∈ own.map (·.2))
    (hg : ∀ (s : Shared) (H : Hp) (C : Addr) (cl : List (Str × Addr)) (fp : List Addr), JG c.nox (X.blk s H scope (compEnvC scope cl C X.env) fp) tg ts A)
    (ht : ∀ (s : Shared) (H : Hp) (C : Addr) (cl : List (Str × Addr)) (fp : List Addr), JTs c.nox (X.blk s H scope (compEnvC scope cl C X.env) fp) ifs t)
    (he : ∀ (W' : WX) (pn : List (Addr × Obj)) (xe : Value → Shared → Prop) (s : Shared) (H : Hp) (C : Addr) (cl : List (Str × Addr)) (fp : List Addr), Takes ((X.blk s H scope (compEnvC scope cl C X.env) fp).tr pn xe) W' → JE ⟨W', c.cl, c.hx⟩ ((X.blk s H scope (compEnvC scope cl C X.env) fp).tr pn xe) elt el)
    (hst : X.stack = X.env :: X.outer) (hfr : X.env.frame = some X.env.locals) (tk : Takes X c.W) (hs : ∀ x, foldedSetIterable iter X.env x = pure x := by intro _; rfl) :
    JF c X (.ListComp elt [⟨tg, iter, ifs, 0⟩] scope pos) (dCompX it A t el (own.map (·.2))) := fun R H0 G0 H G σ δ Q k h pins s I => by
  show wpAny _ _ (eval (.ListComp elt [⟨tg, iter, ifs, 0⟩] scope pos) X.env) _ _ s
  rw [eval_ListComp]
  refine compX hst hfr tk hc hN I (piS X tg iter) ok (pgB X scope tg) (ptB X scope ifs) hs (lcX_ok hi hts hg ht he k h) fun D C t m H1 I1 q hn f => ⟨m, hn, fun h2 sb => ?_⟩
  obtain ⟨c0, c1, c2, c3, c4, c5⟩ := f
  exact ⟨.ref D, H1, I1.turned (t' := t.toks) (fun b o hb e => (sb.2 b hb).trans e) c0 c1 c3 c4 c5, rfl, q⟩
end
end DL

set_option maxRecDepth 100000
set_option maxHeartbeats 4000000
/-! try and raising comprehensions, reckoned from within -/
namespace DL
open PySem PySem.Spec PyProof.Rows L2
def tryK (tab : Str → Str → Option Bool) (hs : List (Str × DS)) : SO → SO
  | .ex cn ns ds δ => tryH tab hs cn ns ds δ
  | o => o
def tryK2 (tab : Str → Str → Option Bool) (s : DS) (r : List (Str × DS)) (cn : Str) (ns : List Str) (ds : List D) (δ : DEnv) : Option Bool → SO
  | some true => (match s δ with
    | .ex _ _ _ _ => .st
    | o => o)
  | some false => tryH tab r cn ns ds δ
  | none => .st
def hdS : SO → SO
  | .ex _ _ _ _ => .st
  | o => o
section
variable (tab : Str → Str → Option Bool) (hs r : List (Str × DS)) (f s : DS) (δ : DEnv) (d : D) (h cn : Str) (ns : List Str) (ds : List D)
theorem a_try : sTry tab f hs δ = tryK tab hs (f δ) := by unfold sTry tryK; cases f δ <;> rfl
theorem a_tryK_0 : tryK tab hs (.nx δ) = .nx δ := rfl
theorem a_tryK_1 : tryK tab hs (.rt d δ) = .rt d δ := rfl
theorem a_tryK_2 : tryK tab hs (.ex cn ns ds δ) = tryH tab hs cn ns ds δ := rfl
theorem a_tryH_0 : tryH tab [] cn ns ds δ = .ex cn ns ds δ := rfl
theorem a_tryH_1 : tryH tab ((h, s) :: r) cn ns ds δ = tryK2 tab s r cn ns ds δ (tab cn h) := by
  show (match tab cn h with | some true => _ | some false => _ | none => _) = _
  cases tab cn h with
  | none => rfl
  | some b => cases b <;> rfl
theorem a_tryK2_0 : tryK2 tab s r cn ns ds δ (some true) = hdS (s δ) := by
  show (match s δ with | .ex _ _ _ _ => SO.st | o => o) = _
  cases s δ <;> rfl
theorem a_tryK2_1 : tryK2 tab s r cn ns ds δ (some false) = tryH tab r cn ns ds δ := rfl
theorem a_hdS_0 : hdS (.nx δ) = .nx δ := rfl
theorem a_hdS_1 : hdS (.rt d δ) = .rt d δ := rfl
end
def compKX (A : D → DEnv → Option DEnv) (t : DT) (el : DE) (vs : List Nat) : EO (List D) → EO D
  | .ok ds δ => compLX A t el vs ds δ []
  | .ex c n d δ => .ex c n d δ
  | .st => .st
section
variable (A : D → DEnv → Option DEnv) (t : DT) (el : DE) (vs : List Nat)
theorem a_compX (it : DI) (δ : DEnv) : dCompX it A t el vs δ = compKX A t el vs (it δ) := by unfold dCompX; cases it δ <;> rfl
theorem a_compKX_0 (ds : List D) (δ : DEnv) : compKX A t el vs (.ok ds δ) = compLX A t el vs ds δ [] := rfl
/-- each element is made, up to the first one that raises -/
theorem compX_all {δ : DEnv} (Γ : D → DEnv) (g : D → D) (hv : vsFree vs δ = true) (hA : ∀ z, A z (blkEnv vs δ) = some (Γ z)) (hb : ∀ z, backEnv δ (Γ z) = δ) : ∀ (ds acc : List D), acc.length + ds.length ≤ sizeLine →
    (∀ d ∈ ds, el (Γ d) = .ok (g d) (Γ d)) → compLX A dYes el vs ds δ acc = .ok (.lst (acc ++ ds.map g)) δ
  | [], acc, _, _ => by show EO.ok (D.lst acc) δ = _; simp
  | d :: ds, acc, hl, h => by
    have hl' : acc.length + (ds.length + 1) ≤ sizeLine := hl
    show (if vsFree vs δ = true then _ else _) = _
    rw [if_pos hv, hA]
    show (match el (Γ d) with | .ok x δ3 => _ | .ex c n e δ3 => _ | .st => _) = _
    rw [h d List.mem_cons_self]
    show (if acc.length < sizeLine then _ else _) = _
    rw [if_pos (by omega), hb, compX_all Γ g hv hA hb ds (acc ++ [g d]) (by rw [List.length_append]; show acc.length + 1 + ds.length ≤ _; omega) fun x hx => h x (List.mem_cons_of_mem _ hx)]
    simp
theorem compX_first {δ : DEnv} (Γ : D → DEnv) (g : D → D) {c : Str} {n : List Str} {es : List D} (ok : D → Bool) (hv : vsFree vs δ = true) (hA : ∀ z, A z (blkEnv vs δ) = some (Γ z)) (hb : ∀ z, backEnv δ (Γ z) = δ) : ∀ (ds acc : List D), acc.length + ds.length ≤ sizeLine →
    (∀ d ∈ ds, ok d = true → el (Γ d) = .ok (g d) (Γ d)) → (∀ d ∈ ds, ok d = false → el (Γ d) = .ex c n es (Γ d)) → ds.all ok = false → compLX A dYes el vs ds δ acc = .ex c n es δ
  | [], _, _, _, _, no => by cases no
  | d :: ds, acc, hl, h1, h2, h => by
    have hl' : acc.length + (ds.length + 1) ≤ sizeLine := hl
    show (if vsFree vs δ = true then _ else _) = _
    rw [if_pos hv, hA]
    show (match el (Γ d) with | .ok x δ3 => _ | .ex c n e δ3 => _ | .st => _) = _
    cases q : ok d with
    | false =>
      rw [h2 d List.mem_cons_self q]
      show EO.ex c n es (backEnv δ (Γ d)) = _
      rw [hb]
    | true =>
      rw [h1 d List.mem_cons_self q]
      show (if acc.length < sizeLine then _ else _) = _
      rw [if_pos (by omega), hb]
      refine compX_first Γ g ok hv hA hb ds (acc ++ [g d]) (by rw [List.length_append]; show acc.length + 1 + ds.length ≤ _; omega) (fun x hx => h1 x (List.mem_cons_of_mem _ hx)) (fun x hx => h2 x (List.mem_cons_of_mem _ hx)) ?_
      rw [List.all_cons, q, Bool.true_and] at h
      exact h
end
end DL

set_option maxRecDepth 100000
set_option maxHeartbeats 4000000
namespace DL
open PySem PySem.Spec PyProof.Rows L2

/-! ### fields of instances -/
/-- the classes named cs have no attribute f of their own -/
def FldC (K : PySem.W.Frag) (cl : Cw) (cs : List Str) (f : Str) : Prop := ∀ c ∈ cs, ∃ C, cl c = some C ∧ Cls K C ∧ NoAttr K C f
theorem RepL.lookup {K : PySem.W.Frag} {cl : Cw} {G : Hp} : ∀ {vs : List D} {xs : List V}, RepL K cl G xs vs → ∀ {ns : List Str} {f : Str} {d : D}, (ns.zip vs).lookup f = some d → ∃ v, (ns.zip xs).lookup f = some v ∧ Rep K cl G v d
  | [], _, h, ns, f, d, e => by cases ns <;> simp at e
  | v :: vs, _, h, ns, f, d, e => by
    cases h with
    | @cons x xs _ _ h1 h2 =>
      cases ns with
      | nil => simp at e
      | cons n ns =>
        simp only [List.zip_cons_cons, List.lookup_cons] at e ⊢
        cases q : f == n with
        | true => rw [q] at e; cases e; exact ⟨x, rfl, h1⟩
        | false => rw [q] at e; exact h2.lookup e
def dFld (cs : List Str) (f : Str) (fe : DE) : DE := fun δ => (fe δ).bind fun x δ1 => match x with
  | .ins c ns vs => if cs.contains c = true then (match (ns.zip vs).lookup f with | some d => .ok d δ1 | none => .st) else .st
  | _ => .st
section
variable {c : Cf} {X : Cx} {e o value : Expr} {fe fv : DE} {pos pos' : Pos} {f : Str} {cs : List Str}
theorem je_fld (hcs : FldC X.K c.cl cs f) (he : JE c X e fe) (hb : attributeBase e f X.env (eval e X.env) = eval e X.env := by rfl) : JE c X (.Attribute e f pos) (dFld cs f fe) := by
  refine je_of (pe_fld (peS X e) hb) fun R H0 G0 H G σ δ Q k h => ?_
  refine he R H0 G0 H G σ δ _ k (EPost.imp (EPost.bind h) fun x H1 ⟨G1, d, δ1, s1, k1, r1, h1⟩ => ?_)
  cases r1 with
  | @ins a C dx cn ns xs ds h2 hl hc hr =>
    by_cases hm : cs.contains cn = true
    · simp only [hm, if_true] at h1
      cases q : (ns.zip ds).lookup f with
      | none => rw [q] at h1; exact h1.elim
      | some d =>
        rw [q] at h1
        obtain ⟨C', e1, e2, e3⟩ := hcs cn (by simpa using hm)
        rw [hc] at e1
        cases e1
        obtain ⟨v, lv, rv⟩ := hr.lookup q
        exact ⟨a, C, dx, ns.zip xs, v, rfl, k1.sub _ _ h2, e2, e3, lv, h1 v H1 G1 (.refl G1) k1 rv⟩
    · simp only [hm] at h1; exact h1.elim
  | _ => exact h1.elim
end
/-! ### self.f = e, self by reference -/
def putN (f : Str) : List Str → List Str
  | [] => [f]
  | g :: r => if g = f then g :: r else g :: putN f r
def putD {α : Type} (f : Str) (v : α) : List Str → List α → List α
  | [], _ => [v]
  | g :: r, x :: xs => if g = f then v :: xs else x :: putD f v r xs
  | _ :: _, [] => []
theorem put_zip (f : Str) (v : V) : ∀ (ns : List Str) (xs : List V), ns.length = xs.length → (putN f ns).zip (putD f v ns xs) = putF f v (ns.zip xs)
  | [], xs, h => by
    cases xs with
    | nil => rfl
    | cons x t => cases h
  | g :: r, [], h => by cases h
  | g :: r, x :: xs, h => by
    by_cases q : g = f
    · simp [putN, putD, putF, q]
    · simp only [putN, putD, putF, if_neg q, List.zip_cons_cons]
      rw [put_zip f v r xs (by simpa using h)]
theorem put_len (f : Str) {α : Type} (v : α) : ∀ (ns : List Str) (xs : List α), ns.length = xs.length → (putN f ns).length = (putD f v ns xs).length
  | [], xs, h => by
    cases xs with
    | nil => rfl
    | cons x t => cases h
  | g :: r, [], h => by cases h
  | g :: r, x :: xs, h => by
    by_cases q : g = f
    · simp only [putN, putD, if_pos q]; exact h
    · simp only [putN, putD, if_neg q, List.length_cons]
      rw [put_len f v r xs (by simpa using h)]
theorem RepL.putD {K : PySem.W.Frag} {cl : Cw} {G : Hp} {v : V} {d : D} (f : Str) (r : Rep K cl G v d) : ∀ {vs : List D} {xs : List V}, RepL K cl G xs vs → ∀ (ns : List Str), RepL K cl G (DL.putD f v ns xs) (DL.putD f d ns vs)
  | [], _, h, ns => by
    cases h
    cases ns with
    | nil => exact .cons r .nil
    | cons n ns => exact .nil
  | y :: vs, _, h, ns => by
    cases h with
    | cons h1 h2 =>
      cases ns with
      | nil => exact .cons r .nil
      | cons n ns =>
        by_cases q : n = f
        · simp only [DL.putD, if_pos q]; exact .cons r h2
        · simp only [DL.putD, if_neg q]; exact .cons h1 (RepL.putD f r h2 ns)
def sPutF (cs : List Str) (j : Nat) (f : Str) (fe : DE) : DS := fun δ => (fe δ).to fun v δ1 => match look δ1 j with
  | some (.ins c ns vs) => if cs.contains c = true ∧ ns.length < 1000 then oNx (putV j (.ins c (putN f ns) (putD f v ns vs)) δ1) else .st
  | _ => .st
section
variable {c : Cf} {X : Cx} {e o value : Expr} {fe fv : DE} {pos pos' : Pos} {f : Str} {cs : List Str} {j : Nat}
theorem js_putF (hcs : FldC X.K c.cl cs f) (po : PE X o (tVar j)) (he : JE c X e fe) (hs : swapsWith e (some (.Attribute o f pos')) pos.line X.env = pure false := by rfl) : JS c X (.Assign [.Attribute o f pos'] e pos) (sPutF cs j f fe) := by
  refine js_of (ps_fld po (peS X e) hs) fun R H0 G0 H G σ δ D' k h => ?_
  refine he R H0 G0 H G σ δ _ k (EPost.imp (SPost.ofE h) fun v H1 ⟨G1, d, δ1, s1, k1, r1, h1⟩ => ?_)
  cases q0 : look δ1 j with
  | none => rw [q0] at h1; exact h1.elim
  | some d0 =>
    obtain ⟨u, eu, _⟩ := look_ok k1 q0
    refine ⟨u, eu, ?_⟩
    cases d0 with
    | ins cn ns vs =>
      simp only [q0] at h1
      by_cases hm : cs.contains cn = true ∧ ns.length < 1000
      · rw [if_pos hm] at h1
        cases q3 : putV j (.ins cn (putN f ns) (putD f d ns vs)) δ1 with
        | none => rw [q3] at h1; exact h1.elim
        | some δ3 =>
          rw [q3] at h1
          obtain ⟨a, ea, kk⟩ := ownd_put k1 q3
          rw [eu] at ea
          cases ea
          obtain ⟨C, dx, xs, x1, x2, x3, x4⟩ := look_own k1 q0 q3 eu
          obtain ⟨C', e1, e2, e3⟩ := hcs cn (by simpa using hm.1)
          rw [x3] at e1
          cases e1
          refine ⟨a, C, dx, ns.zip xs, rfl, x1, e2, e3, ?_, ?_⟩
          · rw [List.length_zip]; omega
          · refine h1 σ _ G1 (.refl G1) (kk _ ⟨C, dx, putD f v ns xs, ?_, put_len f v ns xs x2, x3, x4.putD f r1 ns⟩)
            rw [put_zip f v ns xs x2]
            exact upd_same
      · rw [if_neg hm] at h1; exact h1.elim
    | _ => simp only [q0] at h1; exact h1.elim
end
end DL

set_option maxRecDepth 100000
set_option maxHeartbeats 4000000
namespace DL
open PySem PySem.Spec PyProof.Rows L2

/-! ### methods of frozen instances -/
def isIns (c m : Str) : D → Bool
  | .ins c' ns _ => decide (c' = c) && !ns.contains m
  | _ => false
def dRecv (c m : Str) (fe : DE) (fs : DA) : DA := fun δ => (fe δ).bind fun x δ1 => if isIns c m x = true then (fs δ1).bind fun xs δ2 => .ok (.v x :: xs) δ2 else .st
def dMeth (c m : Str) (ks : List Bool) (dvs : List D) (fn : List D → FO) (fe : DE) (fs : DA) : DE := dCall ks dvs fn (dRecv c m fe fs)
/-- a method that may be called -/
def CalM (P : Program) (w : World) (K : PySem.W.Frag) (mg : Str → Option Value) (base : Heap) (cl : Cw) (k : Nat) (c m : Str) (ks : List Bool) (fn : List D → FO) (dds : List D) : Prop :=
  ∃ C f fd ps ds dvs, cl c = some C ∧ Cls K C ∧ Meth K C m f ∧ FnOk P w K mg base (L2.CX P w) k f fd ps (SpF K cl ks fn) ∧ Binds K fd ps ds ∧ Vals dvs ds ∧ ∀ G, RepL K cl G dvs dds
/-- an own class that may be made -/
def CalK (P : Program) (w : World) (K : PySem.W.Frag) (mg : Str → Option Value) (base : Heap) (cl : Cw) (k : Nat) (c : Str) (ks : List Bool) (fn : List D → FO) (dds : List D) : Prop :=
  ∃ C f fd ps ds dvs, cl c = some C ∧ mg c = some (.ref C) ∧ Mk K C f ∧ FnOk P w K mg base (L2.CX P w) k f fd ps (SpF K cl ks fn) ∧ Binds K fd ps ds ∧ Vals dvs ds ∧ ∀ G, RepL K cl G dvs dds
/-- a property -/
def CalP (P : Program) (w : World) (K : PySem.W.Frag) (mg : Str → Option Value) (base : Heap) (cl : Cw) (k : Nat) (c f : Str) (fn : List D → FO) : Prop :=
  ∃ C p g fd ps, cl c = some C ∧ Cls K C ∧ PropOf K C f p g ∧ FnOk P w K mg base (L2.CX P w) k g fd ps (SpF K cl [false] fn) ∧ Binds K fd ps []
def tRecv (C : Addr) (m : Str) (ta : TE) (t : TA) : TA := fun σ H Q => ta σ H fun x H1 => ∃ a dx fs, x = .ref a ∧ H1 a = some (.ins C dx fs) ∧ fs.lookup m = none ∧ t σ H1 fun vs H2 => Q (x :: vs) H2
theorem lookup_zip_none {α : Type} {m : Str} : ∀ {ns : List Str} {xs : List α}, ns.contains m = false → (ns.zip xs).lookup m = none
  | [], xs, _ => by simp
  | n :: ns, [], _ => by simp
  | n :: ns, x :: xs, h => by
    simp only [List.contains_cons, Bool.or_eq_false_iff] at h
    simp only [List.zip_cons_cons, List.lookup_cons, h.1]
    exact lookup_zip_none h.2
section
variable {c : Cf} {X : Cx} {CX' : CXT} {k : Nat} {C f : Addr} {fd : FuncData} {ps : List Str} {ds : List Value} {dvs : List V} {sp : Sp} {E : L2.St → XK} {e o : Expr} {es : List Expr} {ta : TE} {t : TA} {p pos apos : Pos} {m x : Str} {fe : DE} {fs : DA}
theorem pe_methD {pl : Sem Bool} (he : PE X o ta) (cc : Cls X.K C) (hm : Meth X.K C m f) (F : FnOk X.prog X.w X.K X.mg X.base CX' k f fd ps sp) (hr : Room k X.A) (hb : Binds X.K fd ps ds) (hd : Vals dvs ds) (hx : ∀ σ, PassesAt CX' X σ (E σ)) (ha : PA X (e :: es) t)
    (hst : starEach (e :: es) X.env = (false, eval e X.env) :: starEach es X.env) (hpl : (backTo pos (starEach es X.env)).any (·.1) = false)
    (ht : eval (.Call (.Attribute o m apos) (e :: es) [] pos) X.env = (do let ov ← eval o X.env; standAt apos.atName; let (f, first) ← holding [ov] (getMethod ov m pl); callWith pos f first (backTo pos (starEach (e :: es) X.env)) (backToKw pos (keywordEach [] X.env)))) :
    PE X (.Call (.Attribute o m apos) (e :: es) [] pos) (tCallD sp dvs E (tRecv C m ta t)) := by
  refine ⟨fun pins s σ H Q I h => PySem.W.methodCall_KW (pl := pl) (thn (he.run pins s σ H _ I h) ?_) ht⟩
  rintro u s1 ⟨x, H1, I1, rx, a, dx, fl, ex, ea, l, q⟩
  subst ex
  obtain rfl : u = Value.ref a := rx
  refine getmeth_ok I1 ea cc hm l (PySem.W.callWith_K (first := [.ref a]) (h₀ := X.base) I1.ok.mod.kin hm.kp (thn (ha.run pos pins s1 σ H1 _ I1 q) ?_) hst hpl)
  rintro us s2 ⟨vs, H2, I2, r, q2⟩
  exact ⟨I2.kIn, run_fnD (us := .ref a :: us) (vs := .ref a :: vs) F hr hb hd (hx σ) I2 (.cons rfl r) q2⟩
theorem pe_methD0 {pl : Sem Bool} (he : PE X o ta) (cc : Cls X.K C) (hm : Meth X.K C m f) (F : FnOk X.prog X.w X.K X.mg X.base CX' k f fd ps sp) (hr : Room k X.A) (hb : Binds X.K fd ps ds) (hd : Vals dvs ds) (hx : ∀ σ, PassesAt CX' X σ (E σ))
    (ht : eval (.Call (.Attribute o m apos) [] [] pos) X.env = (do let ov ← eval o X.env; standAt apos.atName; let (f, first) ← holding [ov] (getMethod ov m pl); callWith pos f first (backTo pos (starEach [] X.env)) (backToKw pos (keywordEach [] X.env)))) :
    PE X (.Call (.Attribute o m apos) [] [] pos) (tCallD sp dvs E (tRecv C m ta tNil)) := by
  refine ⟨fun pins s σ H Q I h => PySem.W.methodCall_KW (pl := pl) (thn (he.run pins s σ H _ I h) ?_) ht⟩
  rintro u s1 ⟨x, H1, I1, rx, a, dx, fl, ex, ea, l, q⟩
  subst ex
  obtain rfl : u = Value.ref a := rx
  exact getmeth_ok I1 ea cc hm l (PySem.W.callWith_K0 (first := [.ref a]) I1.kIn hm.kp (run_fnD (us := [.ref a]) (vs := [.ref a]) F hr hb hd (hx σ) I1 (.cons rfl .nil) q))
theorem recv_ok {cn : Str} {R : List (Nat × Addr)} {H0 G0 H G : Hp} {σ : L2.St} {δ : DEnv} {Q : List V → Hp → Prop} (hc : c.cl cn = some C) (k : (c.fx X R H0 G0).Ok H G σ δ) (he : JE c X o fe)
    (ha : ∀ (H G : Hp) (δ : DEnv) (Q' : List V → Hp → Prop), (c.fx X R H0 G0).Ok H G σ δ → EPost (c.fx X R H0 G0) c.W σ (AvL X.K c.cl σ) G (fs δ) Q' → t σ H Q')
    (h : EPost (c.fx X R H0 G0) c.W σ (AvL X.K c.cl σ) G (dRecv cn m fe fs δ) Q) : tRecv C m (tE X o) t σ H Q := by
  refine he R H0 G0 H G σ δ _ k (EPost.imp (EPost.bind h) fun x H1 ⟨G1, d, δ1, s1, k1, r1, h1⟩ => ?_)
  by_cases hi : isIns cn m d = true
  · rw [if_pos hi] at h1
    cases r1 with
    | @ins a C' dx cn' ns xs ds h2 hl hc' hr =>
      simp only [isIns, Bool.and_eq_true, decide_eq_true_eq, Bool.not_eq_true'] at hi
      obtain ⟨rfl, hm⟩ := hi
      rw [hc] at hc'
      cases hc'
      refine ⟨a, dx, _, rfl, k1.sub _ _ h2, lookup_zip_none hm, ha H1 G1 δ1 _ k1 (EPost.imp (EPost.bind h1) fun vs H2 ⟨G2, as, δ2, s2, k2, r2, h3⟩ => ?_)⟩
      exact h3 _ H2 G2 (.refl G2) k2 (.cons (Rep.mono s2 (.ins h2 hl hc hr)) r2)
    | _ => simp [isIns] at hi
  · rw [if_neg hi] at h1; exact h1.elim
theorem je_meth {cn : Str} {ks : List Bool} {fn : List D → FO} {dds : List D} (M : CalM X.prog X.w X.K X.mg X.base c.cl k cn m ks fn dds) (hr : Room k X.A) (tk : Takes X c.W) (he : JE c X o fe) (ha : JA c X (e :: es) fs) {pl : Sem Bool}
    (hst : starEach (e :: es) X.env = (false, eval e X.env) :: starEach es X.env := by rfl) (hpl : (backTo pos (starEach es X.env)).any (·.1) = false := by rfl)
    (ht : eval (.Call (.Attribute o m apos) (e :: es) [] pos) X.env = (do let ov ← eval o X.env; standAt apos.atName; let (f, first) ← holding [ov] (getMethod ov m pl); callWith pos f first (backTo pos (starEach (e :: es) X.env)) (backToKw pos (keywordEach [] X.env))) := by rfl) :
    JE c X (.Call (.Attribute o m apos) (e :: es) [] pos) (dMeth cn m ks dds fn fe fs) := by
  obtain ⟨C, f, fd, ps, ds, dvs, e1, e2, e3, e4, e5, e6, e7⟩ := M
  exact je_of (pe_methD (peS X o) e2 e3 e4 hr e5 e6 (fun σ => passAt tk σ) (paS X (e :: es)) hst hpl ht) fun R H0 G0 H G σ δ Q k h => call_ok e7 (fun Q' h' => recv_ok e1 k he (fun H G δ Q' k h' => ha R H0 G0 H G σ δ Q' k h') h') h
theorem je_meth0 {cn : Str} {ks : List Bool} {fn : List D → FO} {dds : List D} (M : CalM X.prog X.w X.K X.mg X.base c.cl k cn m ks fn dds) (hr : Room k X.A) (tk : Takes X c.W) (he : JE c X o fe) {pl : Sem Bool}
    (ht : eval (.Call (.Attribute o m apos) [] [] pos) X.env = (do let ov ← eval o X.env; standAt apos.atName; let (f, first) ← holding [ov] (getMethod ov m pl); callWith pos f first (backTo pos (starEach [] X.env)) (backToKw pos (keywordEach [] X.env))) := by rfl) :
    JE c X (.Call (.Attribute o m apos) [] [] pos) (dMeth cn m ks dds fn fe dNil) := by
  obtain ⟨C, f, fd, ps, ds, dvs, e1, e2, e3, e4, e5, e6, e7⟩ := M
  exact je_of (pe_methD0 (peS X o) e2 e3 e4 hr e5 e6 (fun σ => passAt tk σ) ht) fun R H0 G0 H G σ δ Q k h => call_ok e7 (fun Q' h' => recv_ok (fs := dNil) e1 k he (fun H G δ Q' k (h' : ∀ b H' G', _ → _ → _ → _) => h' [] H G (.refl G) k .nil) h') h
/-! ### properties -/
def dProp (cn f : Str) (fn : List D → FO) (fe : DE) : DE := fun δ => (fe δ).bind fun x δ1 => match x with
  | .ins c' _ _ => if c' = cn then (match fn [x] with | .ret d [] => .ok d δ1 | _ => .st) else .st
  | _ => .st
theorem je_prop {cn f : Str} {fn : List D → FO} (M : CalP X.prog X.w X.K X.mg X.base c.cl k cn f fn) (hr : Room (k + 1) X.A) (he : JE c X e fe) (hab : attributeBase e f X.env (eval e X.env) = eval e X.env := by rfl) : JE c X (.Attribute e f pos) (dProp cn f fn fe) := by
  obtain ⟨C, pa, g, fd, ps, e1, e2, e3, e4, e5⟩ := M
  refine je_of (pe_prop (E := fun _ _ _ => False) (dvs := []) (ds := []) (peS X e) e2 e3 e4 hr e5 .nil (fun pins σ H s er s' I ⟨_, _, _, _, _, _, _, _, _, _, _, _, z⟩ => z.elim) hab) fun R H0 G0 H G σ δ Q k h => ?_
  refine he R H0 G0 H G σ δ _ k (EPost.imp (EPost.bind h) fun x H1 ⟨G1, d, δ1, s1, k1, r1, h1⟩ => ?_)
  cases r1 with
  | @ins a C' dx cn' ns xs ds h2 hl hc hr =>
    by_cases hn : cn' = cn
    · subst hn
      simp only [if_true] at h1
      rw [e1] at hc
      cases hc
      refine ⟨a, dx, _, rfl, k1.sub _ _ h2, G1, [.ins cn' ns ds], k1.sub, .val (.ins h2 hl e1 hr) .nil, .nil, ?_⟩
      cases q : fn [.ins cn' ns ds] with
      | ret d rs =>
        rw [q] at h1
        cases rs with
        | cons r rs => exact h1.elim
        | nil =>
          intro v H' G' fr ro rv
          have hk : (c.fx X R H0 G0).Ok H' G' σ δ1 := k1.called (js := []) (rs := []) fr .nil .nil .nil (fun j hj => by cases hj) rfl
          exact h1 v H' G' fr.gk hk rv
      | _ => rw [q] at h1; exact h1.elim
    · simp only [if_neg hn] at h1; exact h1.elim
  | _ => exact h1.elim
end
/-! ### new instances -/
def dMake (cn : Str) (ks : List Bool) (dvs : List D) (fn : List D → FO) (fs : DA) : DE := fun δ => (fs δ).bind fun as δ1 => match avs as with
  | none => .st
  | some ds => if ks = true :: (ds ++ dvs).map (fun _ => false) then (match fn (.ins cn [] [] :: (ds ++ dvs)) with
    | .ret .non [r] => .ok r δ1
    | .ex c ns es [_] => .ex c ns es δ1
    | _ => .st) else .st
def tMakeD (C : Addr) (sp : Sp) (dvs : List V) (E : L2.St → XK) (t : TA) : TE := fun σ H Q => t σ H fun vs H1 => ∀ x dx, H1 x = none → H1 dx = none → dx ≠ x →
  sp (.ref x :: (vs ++ dvs)) (upd (upd H1 dx (.own x)) x (.ins C dx [])) (fun v H2 => v = .non ∧ Q (.ref x) H2) (E σ)
section
variable {c : Cf} {X : Cx} {CX' : CXT} {k : Nat} {C f : Addr} {fd : FuncData} {ps : List Str} {ds : List Value} {dvs : List V} {sp : Sp} {E : L2.St → XK} {e o : Expr} {es : List Expr} {ta : TE} {t : TA} {p pos apos : Pos} {m x : Str} {fe : DE} {fs : DA}
theorem run_makeD {pins : List (Addr × Obj)} {σ : L2.St} {H : Hp} {s : Shared} {Q : VK} {us : List Value} {vs : List V} (M : Mk X.K C f) (F : FnOk X.prog X.w X.K X.mg X.base CX' k f fd ps sp) (hr : Room (k + 1) X.A) (hb : Binds X.K fd ps ds) (hd : Vals dvs ds) (hx : PassesAt CX' X σ (E σ)) (I : Inv X pins σ H s) (r : Vals vs us)
    (h : ∀ x dx, H x = none → H dx = none → dx ≠ x → sp (.ref x :: (vs ++ dvs)) (upd (upd H dx (.own x)) x (.ins C dx [])) (fun v H2 => v = .non ∧ Q (.ref x) H2) (E σ)) : wpAny (model X.prog X.w) X.A (call (.ref C) us) (EP X pins σ Q) X.xe s := by
  have lt := Nat.lt_succ_self s.heap.objs.size
  have hq := h _ _ (I.hok.fresh (Nat.le_of_lt lt)) (I.hok.fresh (Nat.le_refl _)) (Nat.ne_of_lt lt)
  have I2 := Inv.made (C := C) I
  have r2 : Vals (V.ref (s.heap.objs.size + 1) :: (vs ++ dvs)) (Value.ref (s.heap.objs.size + 1) :: (us ++ ds)) := .cons rfl (r.append hd)
  have hl := (r2.length.symm.trans (F.len _ _ _ _ hq))
  have hB := hb _ (Value.ref (s.heap.objs.size + 1) :: us) I2.kIn hl
  refine wpAny_call (make_map (f := f) I.kIn M.makes M.init (beq_iff_eq.mp M.fn) (codeAny_mono (F.run _ X.stack _ _ ⟨_, []⟩ _ _ _ _ (hr.make C us []) (I2.env0.make C us []) hB r2 hq) ?_))
  rintro (er | fl) s' hq'
  · exact hx pins _ _ er s' I2 hq'
  · cases fl with
    | ret u =>
      obtain ⟨v, H', I3, rv, ev, q3⟩ := I2.after hq'
      exact ⟨by subst ev; exact rv, V.ref (s.heap.objs.size + 1), H', I3, rfl, q3⟩
    | next => exact hq'.elim
    | brk => exact hq'.elim
    | cont => exact hq'.elim
theorem pe_makeD (M : Mk X.K C f) (F : FnOk X.prog X.w X.K X.mg X.base CX' k f fd ps sp) (hr : Room (k + 1) X.A) (hg : Gl X x) (hm : X.mg x = some (.ref C)) (hb : Binds X.K fd ps ds) (hd : Vals dvs ds) (hx : ∀ σ, PassesAt CX' X σ (E σ)) (ha : PA X (e :: es) t) (hdb : (x == ("__debug__" : Str)) = false)
    (he : starEach (e :: es) X.env = (false, eval e X.env) :: starEach es X.env) (hpl : (backTo pos (starEach es X.env)).any (·.1) = false) : PE X (.Call (.Name x p) (e :: es) [] pos) (tMakeD C sp dvs E t) := by
  refine ⟨fun pins s σ H Q I h => wpAny_Call_Name_kw (ld_glob I hg hm (PySem.W.callWith_K (h₀ := X.base) I.ok.mod.kin M.kp (thn (ha.run pos pins s σ H _ I h) ?_) he hpl) hdb)⟩
  rintro us s1 ⟨vs, H1, I1, r, q⟩
  exact ⟨I1.kIn, run_makeD M F hr hb hd (hx σ) I1 r q⟩
theorem pe_makeD0 (M : Mk X.K C f) (F : FnOk X.prog X.w X.K X.mg X.base CX' k f fd ps sp) (hr : Room (k + 1) X.A) (hg : Gl X x) (hm : X.mg x = some (.ref C)) (hb : Binds X.K fd ps ds) (hd : Vals dvs ds) (hx : ∀ σ, PassesAt CX' X σ (E σ)) (hdb : (x == ("__debug__" : Str)) = false) : PE X (.Call (.Name x p) [] [] pos) (tMakeD C sp dvs E tNil) :=
  ⟨fun pins s σ H Q I h => wpAny_Call_Name_kw (ld_glob I hg hm (PySem.W.callWith_K0 I.kIn M.kp (run_makeD (us := []) M F hr hb hd (hx σ) I .nil h)) hdb)⟩
theorem argOk_vals {K : PySem.W.Frag} {cl : Cw} {H G : Hp} : ∀ {vs : List V} {ds : List D}, RepL K cl G vs ds → ArgOk K cl H G vs (ds.map fun _ => false) ds
  | _, [], r => by cases r; exact .nil
  | _, d :: ds, r => by
    cases r with
    | cons r1 r2 => exact .val r1 (argOk_vals r2)
theorem refA_vals : ∀ (vs : List V) (ds : List D), refA vs (ds.map fun _ => false) = []
  | [], ds => by cases ds <;> rfl
  | v :: vs, [] => by cases v <;> rfl
  | v :: vs, d :: ds => by
    have ih := refA_vals vs ds
    cases v <;> exact ih
/-- the reading -/
theorem make_ok {cn : Str} {ks : List Bool} {dds : List D} {fn : List D → FO} (hc : c.cl cn = some C) (hd : ∀ G, RepL X.K c.cl G dvs dds) {R : List (Nat × Addr)} {H0 G0 H G : Hp} {σ : L2.St} {δ : DEnv} {Q : VK}
    (ha : ∀ (Q' : List V → Hp → Prop), EPost (c.fx X R H0 G0) c.W σ (AvL X.K c.cl σ) G (fs δ) Q' → t σ H Q') (h : FPost (c.fx X R H0 G0) c.W σ G (dMake cn ks dds fn fs δ) Q) : tMakeD C (SpF X.K c.cl ks fn) dvs (WE c.W) t σ H Q := by
  refine ha _ (EPost.imp (FPost.bind (rel := fun _ _ _ => True) h) fun vs H1 ⟨G1, as, δ1, s1, k1, r1, h1⟩ => ?_)
  cases q : avs as with
  | none => rw [q] at h1; exact h1.elim
  | some ds =>
    rw [q] at h1
    by_cases hk : ks = true :: (ds ++ dds).map (fun _ => false)
    · simp only [if_pos hk] at h1
      intro x dx nx ndx ne
      have rl := (r1.vals q).append (hd G1)
      have up : ∀ b o, H1 b = some o → (upd (upd H1 dx (.own x)) x (.ins C dx [])) b = some o := fun b o z => by rw [upd_ne (ne_of_none z nx), upd_ne (ne_of_none z ndx)]; exact z
      have hA : ∀ ds', refA (V.ref x :: (vs ++ dvs)) (true :: (ds' : List D).map (fun _ => false)) = [x] := fun ds' => by show x :: refA _ _ = _; rw [refA_vals]
      refine ⟨G1, .ins cn [] [] :: (ds ++ dds), fun b o z => up b o (k1.sub b o z), ?_, ?_, ?_⟩
      · rw [hk]
        exact .rf (k1.freshG nx) ⟨C, dx, [], upd_same, rfl, hc, .nil⟩ (argOk_vals rl)
      · rw [hk, hA]; exact .cons (fun b hb => by cases hb) .nil
      · have gro : ∀ {H' G' : Hp}, Frm [x] (upd (upd H1 dx (.own x)) x (.ins C dx [])) G1 H' G' → Grow H1 G1 H' G' := fun {H' G'} fr => ⟨fun b o z => fr.kept b o (up b o z) fun hb => (by
            have : b = x := by simpa using hb
            rw [this, nx] at z; cases z), fr.gk, fr.sub, fun b o z => (fr.new b o z).imp id fun z' => (by
            cases e : H1 b with
            | none => rfl
            | some u => rw [up b u e] at z'; cases z')⟩
        cases qf : fn (.ins cn [] [] :: (ds ++ dds)) with
        | st => simp only [qf] at h1; exact h1.elim
        | new d rs => simp only [qf] at h1; exact h1.elim
        | ret d rs =>
          simp only [qf] at h1
          cases d with
          | non =>
            match rs, h1 with
            | [r], h1 =>
              dsimp only at h1
              intro v H' G' fr ro rv
              rw [hk, hA] at fr ro
              cases rv
              refine ⟨rfl, ?_⟩
              cases ro with
              | cons g1 w1 _ =>
              have g := gro fr
              exact h1 x H' G' g.gk (k1.grow g) g1 (k1.freshH0 nx) w1 fun j t e o => k1.freshSl nx e o
            | [], h1 => exact h1.elim
            | _ :: _ :: _, h1 => exact h1.elim
          | _ => exact h1.elim
        | ex cn' ns es' rs =>
          simp only [qf] at h1
          match rs, h1 with
          | [r], h1 =>
            dsimp only at h1
            intro cls dd H' G' fr ro xo
            rw [hk, hA] at fr ro
            have g := gro fr
            exact h1 cls dd H' G' g.gk (k1.grow g) xo
          | [], h1 => exact h1.elim
          | _ :: _ :: _, h1 => exact h1.elim
    · simp only [if_neg hk] at h1; exact h1.elim
theorem jf_make {ks : List Bool} {fn : List D → FO} {dds : List D} (M : CalK X.prog X.w X.K X.mg X.base c.cl k x ks fn dds) (hr : Room (k + 1) X.A) (tk : Takes X c.W) (ha : JA c X (e :: es) fs) (hg : Gl X x := by rfl)
    (hdb : (x == ("__debug__" : Str)) = false := by decide) (he : starEach (e :: es) X.env = (false, eval e X.env) :: starEach es X.env := by rfl) (hpl : (backTo pos (starEach es X.env)).any (·.1) = false := by rfl) : JF c X (.Call (.Name x p) (e :: es) [] pos) (dMake x ks dds fn fs) := by
  obtain ⟨C, f, fd, ps, ds, dvs, e1, e2, e3, e4, e5, e6, e7⟩ := M
  exact fun R H0 G0 H G σ δ Q k h pins s I => (pe_makeD e3 e4 hr hg e2 e5 e6 (fun σ => passAt tk σ) (paS X (e :: es)) hdb he hpl).run pins s σ H Q I (make_ok e1 e7 (fun Q' h' => ha R H0 G0 H G σ δ Q' k h') h)
theorem jf_make0 {ks : List Bool} {fn : List D → FO} {dds : List D} (M : CalK X.prog X.w X.K X.mg X.base c.cl k x ks fn dds) (hr : Room (k + 1) X.A) (tk : Takes X c.W) (hg : Gl X x := by rfl)
    (hdb : (x == ("__debug__" : Str)) = false := by decide) : JF c X (.Call (.Name x p) [] [] pos) (dMake x ks dds fn dNil) := by
  obtain ⟨C, f, fd, ps, ds, dvs, e1, e2, e3, e4, e5, e6, e7⟩ := M
  exact fun R H0 G0 H G σ δ Q k h pins s I => (pe_makeD0 e3 e4 hr hg e2 e5 e6 (fun σ => passAt tk σ) hdb).run pins s σ H Q I (make_ok e1 e7 (fs := dNil) (fun Q' (h' : ∀ b H' G', _ → _ → _ → _) => h' [] H G (.refl G) k .nil) h)
end
end DL

set_option maxRecDepth 100000
set_option maxHeartbeats 4000000
namespace DL
open PySem PySem.Spec PyProof.Rows L2

/-! ### lists of ints -/
def intsD : List D → Option (List Int)
  | [] => some []
  | .int i :: r => (intsD r).map (i :: ·)
  | _ :: _ => none
theorem intsD_ok {K : PySem.W.Frag} {cl : Cw} {G : Hp} : ∀ {ds : List D} {ns : List Int} {vs : List V}, intsD ds = some ns → RepL K cl G vs ds → vs = ns.map V.int
  | [], ns, vs, e, r => by cases e; cases r; rfl
  | d :: ds, ns, vs, e, r => by
    cases r with
    | cons h t =>
      cases h with
      | int i =>
        simp only [intsD, Option.map_eq_some_iff] at e
        obtain ⟨ns', e1, rfl⟩ := e
        rw [intsD_ok e1 t]; rfl
      | _ => cases e
theorem intsD_map : ∀ ns : List Int, intsD (ns.map D.int) = some ns
  | [] => rfl
  | n :: ns => by simp [intsD, intsD_map ns]
def insI (x : Int) : List Int → List Int
  | [] => [x]
  | y :: r => if x ≤ y then x :: y :: r else y :: insI x r
def sortI : List Int → List Int
  | [] => []
  | x :: r => insI x (sortI r)
theorem insI_perm (x : Int) : ∀ l, (insI x l).Perm (x :: l)
  | [] => .refl _
  | y :: r => by
    unfold insI
    split
    · exact .refl _
    · exact ((insI_perm x r).cons y).trans (.swap x y r)
theorem sortI_perm : ∀ l, (sortI l).Perm l
  | [] => .refl _
  | x :: r => (insI_perm x _).trans ((sortI_perm r).cons x)
theorem insI_sorted (x : Int) : ∀ l, l.Pairwise (· ≤ ·) → (insI x l).Pairwise (· ≤ ·)
  | [], _ => by simp [insI]
  | y :: r, h => by
    have h' := List.pairwise_cons.mp h
    unfold insI
    split
    · rename_i hx
      exact .cons (fun z hz => by
        rcases List.mem_cons.mp hz with rfl | hz
        · exact hx
        · exact Int.le_trans hx (h'.1 z hz)) h
    · rename_i hx
      refine .cons (fun z hz => ?_) (insI_sorted x r h'.2)
      rcases List.mem_cons.mp ((insI_perm x r).mem_iff.mp hz) with rfl | hz
      · omega
      · exact h'.1 z hz
theorem sortI_sorted : ∀ l, (sortI l).Pairwise (· ≤ ·)
  | [] => .nil
  | x :: r => insI_sorted x _ (sortI_sorted r)
theorem sorted_uniq : ∀ {a b : List Int}, a.Pairwise (· ≤ ·) → b.Pairwise (· ≤ ·) → a.Perm b → a = b
  | [], b, _, _, p => by rw [List.nil_perm.mp p]
  | x :: a, [], _, _, p => by have := p.length_eq; simp at this
  | x :: a, y :: b, ha, hb, p => by
    have ha' := List.pairwise_cons.mp ha
    have hb' := List.pairwise_cons.mp hb
    have e : x = y := by
      have h1 : x ∈ y :: b := p.mem_iff.mp List.mem_cons_self
      have h2 : y ∈ x :: a := p.mem_iff.mpr List.mem_cons_self
      rcases List.mem_cons.mp h1 with e | h1
      · exact e
      · rcases List.mem_cons.mp h2 with e | h2
        · exact e.symm
        · have := ha'.1 y h2; have := hb'.1 x h1; omega
    subst e
    rw [sorted_uniq ha'.2 hb'.2 ((List.perm_cons x).mp p)]
def minO : List Int → Option Int
  | [] => none
  | x :: r => match minO r with
    | none => some x
    | some m => some (if m < x then m else x)
theorem minO_mem : ∀ {l : List Int} {m : Int}, minO l = some m → m ∈ l ∧ ∀ y ∈ l, m ≤ y
  | [], m, e => by cases e
  | x :: r, m, e => by
    unfold minO at e
    cases q : minO r with
    | none =>
      rw [q] at e; cases e
      cases r with
      | nil => exact ⟨List.mem_cons_self, fun y hy => by have : y = x := by simpa using hy
                                                         omega⟩
      | cons z t => unfold minO at q; cases q' : minO t <;> rw [q'] at q <;> cases q
    | some k =>
      rw [q] at e; cases e
      obtain ⟨h1, h2⟩ := minO_mem q
      by_cases hk : k < x
      · rw [if_pos hk]
        exact ⟨List.mem_cons_of_mem _ h1, fun y hy => by
          rcases List.mem_cons.mp hy with rfl | hy
          · omega
          · exact h2 y hy⟩
      · rw [if_neg hk]
        exact ⟨List.mem_cons_self, fun y hy => by
          rcases List.mem_cons.mp hy with rfl | hy
          · omega
          · have := h2 y hy; omega⟩
def gSorted : List D → Option D
  | [.lst ds] => (intsD ds).map fun ns => .lst ((sortI ns).map D.int)
  | _ => none
def gMin : List D → Option D
  | [.lst ds] => ((intsD ds).bind minO).map D.int
  | _ => none
section
variable {K : PySem.W.Frag} {cl : Cw}
theorem cn_sorted : CallNew K cl (rSortedI K) gSorted := fun H G xs ds z Q s r e q => by
  match ds, r, e with
  | [d], r, e =>
    obtain ⟨v, rfl, rv⟩ := r.one'
    cases rv with
    | @lst a xs ds h1 h2 =>
      simp only [gSorted, Option.map_eq_some_iff] at e
      obtain ⟨ns, e1, rfl⟩ := e
      have := intsD_ok e1 h2
      subst this
      refine ⟨a, ns, rfl, .inl (.inl (s _ _ h1)), fun ns' p p1 p2 np => ?_⟩
      have e3 : ns' = sortI ns := sorted_uniq p2 (sortI_sorted ns) (p1.trans (sortI_perm ns).symm)
      subst e3
      exact q p _ np ⟨_, upd_same, RepL.of_ints _⟩
    | _ => cases e
  | [], r, e => cases e
  | _ :: _ :: _, r, e => simp [gSorted] at e
theorem co_min : CallOk K cl (rMin K) gMin := fun H G xs ds z Q s r e q => by
  match ds, r, e with
  | [d], r, e =>
    obtain ⟨v, rfl, rv⟩ := r.one'
    cases rv with
    | @lst a xs ds h1 h2 =>
      simp only [gMin, Option.map_eq_some_iff, Option.bind_eq_some_iff] at e
      obtain ⟨m, ⟨ns, e1, e2⟩, rfl⟩ := e
      have := intsD_ok e1 h2
      subst this
      obtain ⟨m1, m2⟩ := minO_mem e2
      refine ⟨a, ns, rfl, .inl (.inl (s _ _ h1)), List.length_pos_of_mem m1, fun y y1 y2 => ?_⟩
      have : y = m := by have := m2 y y1; have := y2 m m1; omega
      subst this
      exact q _ H G (.refl s) (.int _)
    | _ => cases e
  | [], r, e => cases e
  | _ :: _ :: _, r, e => simp [gMin] at e
end
section
variable {c : Cf} {X : Cx} {e : Expr} {es : List Expr} {fs : DA} {p pos : Pos}
theorem jf_sorted (hg : Gl X "sorted") (hm : X.mg "sorted" = none) (ha : JA c X (e :: es) fs) (he : starEach (e :: es) X.env = (false, eval e X.env) :: starEach es X.env := by rfl) (hpl : (backTo pos (starEach es X.env)).any (·.1) = false := by rfl) :
    JF c X (.Call (.Name "sorted" p) (e :: es) [] pos) (dCallB gSorted fs) := jf_cb (pe_callB cr_sortedI hg hm (by decide +kernel) (paS X (e :: es)) (by decide) (by decide) he hpl) cn_sorted ha
theorem je_min (hc : X.calm = true) (hg : Gl X "min") (hm : X.mg "min" = none) (ha : JA c X (e :: es) fs) (he : starEach (e :: es) X.env = (false, eval e X.env) :: starEach es X.env := by rfl) (hpl : (backTo pos (starEach es X.env)).any (·.1) = false := by rfl) :
    JE c X (.Call (.Name "min" p) (e :: es) [] pos) (dCallB gMin fs) := je_cb (pe_callB (cr_min hc) hg hm (by decide +kernel) (paS X (e :: es)) (by decide) (by decide) he hpl) co_min ha
theorem je_any (hc : X.calm = true) (hg : Gl X "any") (hm : X.mg "any" = none) (ha : JA c X (e :: es) fs) (he : starEach (e :: es) X.env = (false, eval e X.env) :: starEach es X.env := by rfl) (hpl : (backTo pos (starEach es X.env)).any (·.1) = false := by rfl) :
    JE c X (.Call (.Name "any" p) (e :: es) [] pos) (dCallB gAny fs) := je_cb (pe_callB (cr_any hc) hg hm (by decide +kernel) (paS X (e :: es)) (by decide) (by decide) he hpl) co_any ha
end

/-! ### list(d.keys()) of a name -/
def keyD : Key → D
  | .inl i => .int i
  | .inr s => .str s
def dLKV (j : Nat) : DE := fun δ => match look δ j with
  | some (.dct ks _) => .ok (.lst (ks.map keyD)) δ
  | _ => .st
theorem keys_rep {K : PySem.W.Frag} {cl : Cw} {G : Hp} : ∀ ks : List Key, RepL K cl G (ks.map kV) (ks.map keyD)
  | [] => .nil
  | .inl i :: ks => .cons (.int i) (keys_rep ks)
  | .inr s :: ks => .cons (.str s) (keys_rep ks)
theorem zip_keys {α β : Type} : ∀ {ks : List α} {xs : List β}, ks.length = xs.length → (ks.zip xs).map (·.1) = ks
  | [], [], _ => rfl
  | k :: ks, x :: xs, h => by simp only [List.zip_cons_cons, List.map_cons]; rw [zip_keys (by simpa using h)]
  | [], _ :: _, h => by cases h
  | _ :: _, [], h => by cases h
def tListKeys (te : TE) : TE := fun σ H Q => te σ H fun x H1 => ∃ (d : Addr) (kvs : List (Key × V)), x = .ref d ∧ H1 d = some (.dK kvs) ∧ ∀ p, H1 p = none → Q (.ref p) (upd H1 p (.lst (kvs.map fun kv => kV kv.1)))
section
variable {c : Cf} {X : Cx} {e : Expr} {te : TE} {p apos cpos pos : Pos} {j : Nat}
theorem pe_listKeys (hc : X.calm = true) (he : PE X e te) (hg : Gl X "list") (hm : X.mg "list" = none) (hbase : attributeBase e "keys" X.env (eval e X.env) = eval e X.env) (hline : (apos.endLine == cpos.line) = true)
    (hs : starEach [.Call (.Attribute e "keys" apos) [] [] cpos] X.env = (false, eval (.Call (.Attribute e "keys" apos) [] [] cpos) X.env) :: starEach [] X.env) : PE X (.Call (.Name "list" p) [.Call (.Attribute e "keys" apos) [] [] cpos] [] pos) (tListKeys te) := by
  have hv : bootBuiltins "list" = some (.type "list") := by decide +kernel
  refine ⟨fun pins s σ H Q I hq => wpAny_Call_Name_kw (ld_blt I hg hm hv (PyProof.Rows.callWith_type1 ?_ hs rfl))⟩
  rw [hs]
  show wpAny _ _ (spliced ((false, eval (.Call (.Attribute e "keys" apos) [] [] cpos) X.env) :: backTo pos (starEach [] X.env))) _ _ s
  refine Calls.spliced_cons (wpAny_Call_method (T := "dict") (id := "dict.keys") hbase rfl hline F.plainAttrs_dict F.slot_dict_keys F.type_dict_keys (thn (he.run pins s σ H _ I hq) ?_))
  rintro u s1 ⟨x, H1, I1, rx, d, kvs, ex, hd, q⟩
  subst ex
  obtain rfl : u = Value.ref d := rx
  obtain ⟨hz, hs0, vs, kv, hdo⟩ := I1.hok d _ hd
  obtain ⟨ep, hat⟩ := hdo.dictAt
  have lk : kvs.length = vs.length := Paired.length kv
  have I2 : Inv X pins σ H1 { s1 with heap := s1.heap.push { cls := .type "dict_keys", data := .fields #[.ref d] } } := I1.kept (t' := s1.toks) fun b ob q => Heap.get?_push_of_some _ q
  refine ⟨hdo.typeIs, hdo.mapOf.noDict, ?_⟩
  show wpAny _ _ (callWith cpos (.builtin "dict.keys") [.ref d] [] []) _ X.xe s1
  refine method_meetsIn F.slot_dict_keys F.entry_dict_keys rfl (PySem.evalArgs_none ⟨rfl, hdo.typeIs, F.args_dict_keys_1 _, _, PySem.W.kdl_meets_keys (mixKind X.prog X.w) d hs0, ⟨vs, hdo⟩, Calls.spliced_nil ?_⟩)
  have ek : (kvs.map fun kv => kV kv.1) = vs.map fun p => kV p.1 := by
    have e := congrArg (List.map kV) kv.keys
    rwa [List.map_map, List.map_map] at e
  refine PySem.W.kdl_call (PySem.W.kdl_keys (knd := mixKind X.prog X.w) (kvs := vs) (ep := ep)) (I1.ok.hd hc) ⟨⟨_, Heap.get?_push_size _ rfl, rfl, rfl⟩, hat.push _⟩ (by omega) fun h' tk acc c' hk hD hacc => ?_
  have hv : Vals (vs.map fun p => kV p.1) acc.toList := keys_at (by rw [Array.length_toList]; exact hacc.1) fun j v e => hacc.2 j v (by rw [← Array.getElem?_toList]; exact e)
  exact ⟨.ref _, upd H1 _ (.lst (kvs.map fun kv => kV kv.1)), I2.laid (t' := tk) hk (Nat.le_refl _)
    (show ObjOk X.prog X.w _ _ _ (.lst _) from ⟨by rw [List.length_map]; exact hz, acc.toList, c', by rw [ek]; exact hv, by rw [Array.toArray_toList]; exact hD⟩), rfl, q _ (I2.hok.fresh (Nat.le_refl _))⟩
theorem jf_listKeys (hc : X.calm = true) (pa : PE X e (tVar j)) (hg : Gl X "list") (hm : X.mg "list" = none) (hbase : attributeBase e "keys" X.env (eval e X.env) = eval e X.env := by rfl) (hline : (apos.endLine == cpos.line) = true := by rfl)
    (hs : starEach [.Call (.Attribute e "keys" apos) [] [] cpos] X.env = (false, eval (.Call (.Attribute e "keys" apos) [] [] cpos) X.env) :: starEach [] X.env := by rfl) : JF c X (.Call (.Name "list" p) [.Call (.Attribute e "keys" apos) [] [] cpos] [] pos) (dLKV j) := fun R H0 G0 H G σ δ Q k h pins s I => by
  refine (pe_listKeys hc pa hg hm hbase hline hs).run pins s σ H Q I ?_
  unfold dLKV at h
  cases q0 : look δ j with
  | none => rw [q0] at h; exact h.elim
  | some d =>
    cases d with
    | dct ks vs =>
      simp only [q0] at h
      obtain ⟨v, ev, w⟩ := look_ok k q0
      have fin : ∀ (a : Addr) (xs : List V), H a = some (.dK (ks.zip xs)) → ks.length = xs.length → v = .ref a → tListKeys (tVar j) σ H Q := fun a xs h1 h2 h3 => by
        subst h3
        refine ⟨.ref a, ev, a, _, rfl, h1, fun p np => ?_⟩
        have gr := Grow.fresh k.sub np (.lst ((ks.zip xs).map fun kv => kV kv.1))
        refine h p _ _ gr.gk (k.grow gr) (k.freshG np) (k.freshH0 np) ⟨_, upd_same, ?_⟩ fun j t e o' => k.freshSl np e o'
        have : ((ks.zip xs).map fun kv => kV kv.1) = ks.map kV := by
          have z := congrArg (List.map kV) (zip_keys h2)
          rwa [List.map_map] at z
        rw [this]
        exact keys_rep ks
      rcases w with w | ⟨a, rfl, w⟩
      · cases w with
        | dct h1 h2 h3 => exact fin _ _ (k.sub _ _ h1) h2 rfl
      · obtain ⟨xs, h1, h2, h3⟩ := w
        exact fin a xs h1 h2 rfl
    | _ => simp only [q0] at h; exact h.elim
end
end DL

set_option maxRecDepth 100000
set_option maxHeartbeats 4000000
namespace DL
open PySem PySem.Spec PyProof.Rows L2

/-! ### sets of ints -/
theorem setI_at {P : Program} {w : World} {h h' : Heap} {a : Addr} {S : Int → Bool} {n : Nat} (R : h.SetOf (intKind P w) a S n) (k : ∀ o, h.get? a = some o → h'.get? a = some o) : h'.SetOf (intKind P w) a S n := by
  obtain ⟨o, es, z⟩ := R
  obtain ⟨ep, t, ho, r⟩ := z
  exact ⟨o, es, ep, t, ⟨k o ho, r⟩⟩
theorem setI_new {P : Program} {w : World} {H : Hp} {h : Heap} {a : Addr} {S : Int → Bool} {n : Nat} (R : h.SetOf (intKind P w) a S n) : ObjOk P w H h a (SetI P w a S n) := by
  have ⟨o, _, _, _, ho, _⟩ := R
  exact ⟨R, ⟨o, ho⟩, fun _ _ p k => setI_at p k⟩
def rSI (P : Program) (w : World) (neg : Bool) : V → V → Hp → VK → Prop := fun x y H Q => ∃ k a S n, x = V.int k ∧ y = V.ref a ∧ H a = some (SetI P w a S n) ∧ Q (.bl (if neg then !S k else S k)) H
theorem or_si {X : Cx} : OpR X (compareOp .In) (rSI X.prog X.w false) := by
  rintro pins s σ H x y v u Q I rx ry ⟨k, a, S, n, rfl, rfl, ha, q⟩
  obtain ⟨tk, rfl⟩ := rx
  cases ry
  exact wpAny_inSet_of (intKind_is _ _ _ _) rfl (I.hok a _ ha).1 ⟨.bl (S k), H, I.tok _, rfl, q⟩
theorem or_nsi {X : Cx} : OpR X (compareOp .NotIn) (rSI X.prog X.w true) := by
  rintro pins s σ H x y v u Q I rx ry ⟨k, a, S, n, rfl, rfl, ha, q⟩
  obtain ⟨tk, rfl⟩ := rx
  cases ry
  exact wpAny_notInSet_of (intKind_is _ _ _ _) rfl (I.hok a _ ha).1 ⟨.bl (!S k), H, I.tok _, rfl, q⟩
theorem met_mem (ns : List Int) (k : Int) : ((PyProof.Rows.firstMet (fun i => ns.getD i 0) ns.length).any (· == k)) = decide (k ∈ ns) := by
  rw [PyProof.Rows.firstMet_any, Bool.eq_iff_iff]
  simp only [List.any_eq_true, List.mem_map, List.mem_range, beq_iff_eq, decide_eq_true_eq]
  constructor
  · rintro ⟨x, ⟨i, hi, rfl⟩, rfl⟩
    rw [List.getD_eq_getElem?_getD, List.getElem?_eq_getElem hi]
    exact List.getElem_mem hi
  · intro h
    obtain ⟨i, hi, e⟩ := List.mem_iff_getElem.mp h
    exact ⟨k, ⟨i, hi, by rw [List.getD_eq_getElem?_getD, List.getElem?_eq_getElem hi]; exact e⟩, rfl⟩
/-- set(x), x a list or a tuple of ints -/
def rSetI (K : PySem.W.Frag) (P : Program) (w : World) : List V → Hp → VK → Prop := fun vs H Q => ∃ (a : Addr) (ns : List Int), vs = [.ref a] ∧ (SqL K H a (ns.map V.int) ∨ SqT K H a (ns.map V.int)) ∧ ns.length + 1 < scanBound ∧
  ∀ (p : Addr) (n : Nat), H p = none → Q (.ref p) (upd H p (SetI P w p (fun j => decide (j ∈ ns)) n))
theorem cr_setI {X : Cx} (hc : X.calm = true) : CallR X (.type "set") (rSetI X.K X.prog X.w) := by
  rintro pins s σ H vs us Q I r ⟨a, ns, rfl, hs, hb, q⟩
  rw [Vals.ref1 r]
  have fin : ∀ (h' : Heap) (tk c : Nat), h'.SetOf (intKind X.prog X.w) s.heap.objs.size (fun j => decide (j ∈ ns)) c → (∀ b o, s.heap.get? b = some o → h'.get? b = some o) → EP X pins σ Q (.ref s.heap.objs.size) { s with heap := h', toks := tk } := fun h' tk c hS hk =>
    ⟨.ref _, upd H s.heap.objs.size (SetI X.prog X.w s.heap.objs.size (fun j => decide (j ∈ ns)) c), I.laid (t' := tk) hk (Nat.le_refl _) (setI_new hS), rfl, q _ c (I.hok.fresh (Nat.le_refl _))⟩
  rcases hs with hs | hs
  · obtain ⟨its, rv, hl, hz⟩ := I.list hs
    have hi := rv.ints
    have hz2 : its.length = ns.length := hi.length
    refine PySem.call_set_list (I.ok.hd hc) hl.isList (by rw [List.toList_toArray]; exact hi) (by rw [List.size_toArray, hz2]; exact hb) fun h' tk hS hk => fin h' tk _ (PyProof.Rows.SetOf_congr hS (fun k => ?_) rfl) fun b o e => hk b o (Heap.lt_size e) e
    rw [List.size_toArray, hz2]
    exact met_mem ns k
  · obtain ⟨its, rv, hl, hz⟩ := I.tuple hs
    exact call_set_tupI ns (I.ok.hd hc) hl (by rw [List.toList_toArray]; exact rv.ints) hb fun h' tk c h1 _ h3 => fin h' tk c h1.setOf h3
def setD (ds : List D) : Option D := (intsD ds).bind fun ns => if ns.length + 1 < scanBound then some (.set ns) else none
def gSet : List D → Option D
  | [.lst ds] => setD ds
  | [.tup ds] => setD ds
  | _ => none
theorem setD_ok {ds : List D} {z : D} (e : setD ds = some z) : ∃ ns, intsD ds = some ns ∧ ns.length + 1 < scanBound ∧ z = .set ns := by
  unfold setD at e
  rw [Option.bind_eq_some_iff] at e
  obtain ⟨ns, e1, e2⟩ := e
  by_cases h : ns.length + 1 < scanBound
  · rw [if_pos h] at e2; cases e2; exact ⟨ns, e1, h, rfl⟩
  · rw [if_neg h] at e2; cases e2
section
variable {K : PySem.W.Frag} {cl : Cw}
theorem co_set : CallOk K cl (rSetI K cl.P cl.w) gSet := fun H G xs ds z Q s r e q => by
  match ds, r, e with
  | [d], r, e =>
    obtain ⟨v, rfl, rv⟩ := r.one'
    cases rv with
    | @lst a xs ds h1 h2 =>
      obtain ⟨ns, e1, e2, rfl⟩ := setD_ok (show setD ds = some z from e)
      have := intsD_ok e1 h2
      subst this
      refine ⟨a, ns, rfl, .inl (.inl (.inl (s _ _ h1))), e2, fun p n np => ?_⟩
      have gr := Grow.froze s np (SetI cl.P cl.w p (fun j => decide (j ∈ ns)) n)
      exact q _ _ _ gr (.set upd_same fun k => rfl)
    | @tup a xs ds h1 h2 =>
      obtain ⟨ns, e1, e2, rfl⟩ := setD_ok (show setD ds = some z from e)
      have := intsD_ok e1 h2
      subst this
      refine ⟨a, ns, rfl, .inr (.inl (.inl (s _ _ h1))), e2, fun p n np => ?_⟩
      have gr := Grow.froze s np (SetI cl.P cl.w p (fun j => decide (j ∈ ns)) n)
      exact q _ _ _ gr (.set upd_same fun k => rfl)
    | _ => cases e
  | [], r, e => cases e
  | _ :: _ :: _, r, e => simp [gSet] at e
def gInS (neg : Bool) : D → D → Option D
  | .int k, .set xs => some (.bl (if neg then !xs.contains k else xs.contains k))
  | _, _ => none
theorem bin_inS : BinOk K cl (rSI cl.P cl.w false) (gInS false) := fun H G x y d e z Q s r1 r2 g q => by
  cases r1 with
  | int k =>
    cases r2 with
    | @set a xs S n h1 h2 =>
      cases g
      refine ⟨k, a, S, n, rfl, rfl, s _ _ h1, ?_⟩
      rw [h2 k]
      have := q _ H G (.refl s) (.bl (xs.contains k))
      simpa using this
    | _ => cases g
  | _ => cases g
theorem bin_notinS : BinOk K cl (rSI cl.P cl.w true) (gInS true) := fun H G x y d e z Q s r1 r2 g q => by
  cases r1 with
  | int k =>
    cases r2 with
    | @set a xs S n h1 h2 =>
      cases g
      refine ⟨k, a, S, n, rfl, rfl, s _ _ h1, ?_⟩
      rw [h2 k]
      have := q _ H G (.refl s) (.bl (!xs.contains k))
      simpa using this
    | _ => cases g
  | _ => cases g
end
section
variable {c : Cf} {X : Cx} {e : Expr} {es : List Expr} {fs : DA} {p pos : Pos}
theorem je_set (hp : c.cl.P = X.prog) (hw : c.cl.w = X.w) (hc : X.calm = true) (hg : Gl X "set") (hm : X.mg "set" = none) (ha : JA c X (e :: es) fs) (he : starEach (e :: es) X.env = (false, eval e X.env) :: starEach es X.env := by rfl) (hpl : (backTo pos (starEach es X.env)).any (·.1) = false := by rfl) :
    JE c X (.Call (.Name "set" p) (e :: es) [] pos) (dCallB gSet fs) := je_cb (pe_callTy (cr_setI hc) hg hm (by decide +kernel) (paS X (e :: es)) (by decide) (by decide) he hpl) (by rw [← hw, ← hp]; exact co_set) ha
theorem cr_inS (hp : c.cl.P = X.prog) (hw : c.cl.w = X.w) : CmpR c X .In (rSI X.prog X.w false) (gInS false) := ⟨or_si, by rw [← hw, ← hp]; exact bin_inS⟩
theorem cr_notinS (hp : c.cl.P = X.prog) (hw : c.cl.w = X.w) : CmpR c X .NotIn (rSI X.prog X.w true) (gInS true) := ⟨or_nsi, by rw [← hw, ← hp]; exact bin_notinS⟩
end
end DL

set_option maxRecDepth 100000
set_option maxHeartbeats 4000000
namespace DL
open PySem PySem.Spec PyProof.Rows L2

/-! ### an object that is nobody's stays while parts are reckoned -/
section
variable {K : PySem.W.Frag} {cl : Cw} {hx : Addr × Option Addr} {R : List (Nat × Addr)} {H0 G0 H G : Hp} {σ : L2.St} {δ : DEnv}
theorem Ok.guard (k : Ok K cl hx R H0 G0 H G σ δ) {p : Addr} (np : H p = none) (o : HO) : Ok K cl hx R (upd H0 p o) G0 (upd H p o) G σ δ := by
  have g := k.grow (Grow.fresh k.sub np o)
  have ng := k.freshG np
  refine ⟨g.len, g.sub, g.ext, fun b u e => ?_, fun b u e hR => ?_, fun q hq => ⟨?_, (k.rfree q hq).2⟩, fun i s x e1 e2 => ?_, g.sep, g.refs, g.rfs⟩
  · have hb : b ≠ p := fun z => by rw [z, ng] at e; cases e
    rw [upd_ne hb]; exact g.new b u e
  · by_cases hb : b = p
    · subst hb; rw [upd_same] at e ⊢; exact e
    · rw [upd_ne hb] at e; exact g.kept b u e hR
  · by_cases hb : q.2 = p
    · rw [hb, upd_same]; simp
    · rw [upd_ne hb]; exact (k.rfree q hq).1
  · have w := g.sl i s x e1 e2
    cases s with
    | own d =>
      obtain ⟨a, q1, q2, q3, q4⟩ := w
      have hb : a ≠ p := fun z => by
        subst q1 z
        exact k.freshSl np e1 rfl e2
      exact ⟨a, q1, q2, by rw [upd_ne hb]; exact q3, q4⟩
    | _ => exact w
theorem Ok.unguard {p : Addr} {o : HO} (k : Ok K cl hx R (upd H0 p o) G0 H G σ δ) (h0 : H0 p = none) (hR : ∀ q ∈ R, H0 q.2 ≠ none) : Ok K cl hx R H0 G0 H G σ δ ∧ H p = some o := by
  have hp : ∀ q ∈ R, q.2 ≠ p := fun q hq z => hR q hq (by rw [z]; exact h0)
  refine ⟨⟨k.len, k.sub, k.ext, fun b u e => ?_, fun b u e h => ?_, fun q hq => ⟨hR q hq, (k.rfree q hq).2⟩, fun i s x e1 e2 => ?_, k.sep, k.refs, k.rfs⟩, k.kept p o upd_same hp⟩
  · rcases k.new b u e with z | z
    · exact .inl z
    · by_cases hb : b = p
      · subst hb; rw [upd_same] at z; cases z
      · rw [upd_ne hb] at z; exact .inr z
  · exact k.kept b u (by rw [upd_ne (ne_of_none e h0)]; exact e) h
  · have w := k.sl i s x e1 e2
    cases s with
    | own d =>
      obtain ⟨a, q1, q2, q3, q4⟩ := w
      refine ⟨a, q1, q2, ?_, q4⟩
      by_cases hb : a = p
      · rw [hb]; exact h0
      · rw [upd_ne hb] at q3; exact q3
    | _ => exact w
end
/-! ### {k: v} -/
def toKey : D → Option Key
  | .int i => some (.inl i)
  | .str s => some (.inr s)
  | _ => none
theorem toKey_ok {K : PySem.W.Frag} {cl : Cw} {G : Hp} {v : V} {d : D} {k : Key} (r : Rep K cl G v d) (e : toKey d = some k) : v = kV k := by
  cases r <;> simp [toKey] at e <;> subst e <;> rfl
def dDct1 (fk fv : DE) : DE := fun δ => (fk δ).bind fun x δ1 => (fv δ1).bind fun y δ2 => match toKey x with
  | some k => .ok (.dct [k] [y]) δ2
  | none => .st
section
variable {c : Cf} {X : Cx} {k v : Expr} {fk fv : DE} {pos : Pos}
theorem jf_dct1 (hk : JE c X k fk) (hv : JE c X v fv) : JF c X (.Dict [some k] [v] pos) (dDct1 fk fv) := fun R H0 G0 H G σ δ Q kk h pins s I => by
  refine (pe_disp (pps_cons (peS X k) (peS X v) pps_nil) rfl rfl (by simp) (by show 1 ≤ 15; decide)).run pins s σ H Q I fun p np => ?_
  have g := kk.guard np (.dK [])
  have h00 := kk.freshH0 np
  have hR : ∀ q ∈ R, H0 q.2 ≠ none := fun q hq => (kk.rfree q hq).1
  cases q1 : fk δ with
  | st => unfold dDct1 at h; rw [q1] at h; exact h.elim
  | ex cn ns ds δ1 =>
    unfold dDct1 at h; rw [q1] at h
    refine hk R (upd H0 p (.dK [])) G0 _ G σ δ _ g ?_
    rw [q1]
    intro cls dd H' G' s' k' x
    obtain ⟨k2, _⟩ := Ok.unguard k' h00 hR
    exact h cls dd H' G' s' k2 x
  | ok x δ1 =>
    refine hk R (upd H0 p (.dK [])) G0 _ G σ δ _ g ?_
    rw [q1]
    intro u H1 G1 s1 k1 r1
    have h' : FPost (c.fx X R H0 G0) c.W σ G ((fv δ1).bind fun y δ2 => match toKey x with | some k => .ok (.dct [k] [y]) δ2 | none => .st) Q := by unfold dDct1 at h; rw [q1] at h; exact h
    cases q2 : fv δ1 with
    | st => rw [q2] at h'; exact h'.elim
    | ex cn ns ds δ2 =>
      rw [q2] at h'
      refine hv R (upd H0 p (.dK [])) G0 H1 G1 σ δ1 _ k1 ?_
      rw [q2]
      intro cls dd H' G' s' k' x
      obtain ⟨k2, _⟩ := Ok.unguard k' h00 hR
      exact h' cls dd H' G' (s1.trans s') k2 x
    | ok y δ2 =>
      rw [q2] at h'
      refine hv R (upd H0 p (.dK [])) G0 H1 G1 σ δ1 _ k1 ?_
      rw [q2]
      intro u2 H2 G2 s2 k2 r2
      obtain ⟨k3, hp⟩ := Ok.unguard k2 h00 hR
      cases q3 : toKey x with
      | none => simp only [EO.bind, q3] at h'; exact h'.elim
      | some key =>
        simp only [EO.bind, q3] at h'
        have ek := toKey_ok r1 q3
        subst ek
        refine ⟨hp, [(key, u2)], rfl, by show 1 ≤ 15; decide, ?_⟩
        have ngp : G2 p = none := by
          cases e : G2 p with
          | none => rfl
          | some o =>
            have z : (upd H0 p (.dK [])) p = none ∨ G0 p = some o := by
              rcases k2.new p o e with z | z
              · exact .inr z
              · exact .inl z
            rcases z with z | z
            · rw [upd_same] at z; cases z
            · have := kk.ext p o z; rw [kk.freshG np] at this; cases this
        have nsl : ∀ (j : Nat) (t : Sl), δ2[j]? = some t → isO t = true → σ[j]? ≠ some (some (.ref p)) := fun j t e o z => by
          obtain ⟨a, d, z1, z2, z3, z4⟩ := (k2.sl j t _ e z).ex o
          cases z1
          rcases z4 with z4 | z4
          · subst z4
            obtain ⟨a', y1, _, y3, _⟩ := k2.sl j _ _ e z
            cases y1
            have y3 : (upd H0 p (.dK [])) p = none := y3
            rw [upd_same] at y3; cases y3
          · subst z4
            obtain ⟨q, hq, e1⟩ := k2.rfs j d e
            obtain ⟨d', e2, e3⟩ := k2.refs q hq
            rw [e1, z] at e3
            cases e3
            exact hR q hq h00
        have fr : Frm [p] H2 G2 (upd H2 p (.dK (mergeK [] [(key, u2)]))) G2 := ⟨.refl G2, fun b u z => by rw [upd_ne (ne_of_none z ngp)]; exact k3.sub b u z, fun b u z hb => by rw [upd_ne (fun z' => hb (by rw [z']; exact List.mem_cons_self))]; exact z, fun b u z => .inl z⟩
        have up : ∀ {a : Addr}, a ≠ p → ∀ o, H2 a = some o → (upd H2 p (.dK (mergeK [] [(key, u2)]))) a = some o := fun {a} ne o z => by rw [upd_ne ne]; exact z
        refine h' p _ G2 (s1.trans s2) ?_ ngp h00 ⟨[u2], upd_same, rfl, .cons r2 .nil⟩ nsl
        refine ⟨k3.len, fr.sub, k3.ext, k3.new, fun b u e hb => ?_, k3.rfree, fun i s x e1 e2 => ?_, k3.sep, k3.refs, k3.rfs⟩
        · have : b ≠ p := fun z => by rw [z, h00] at e; cases e
          exact up this u (k3.kept b u e hb)
        · have w := k3.sl i s x e1 e2
          cases s with
          | own d =>
            obtain ⟨a, y1, y2, y3, y4⟩ := w
            have : a ≠ p := fun z => by subst y1 z; exact nsl i _ e1 rfl e2
            exact ⟨a, y1, y2, y3, y4.mono (.refl G2) fun o z => up this o z⟩
          | rf d =>
            obtain ⟨a, y1, y2, y4⟩ := w
            have : a ≠ p := fun z => by subst y1 z; exact nsl i _ e1 rfl e2
            exact ⟨a, y1, y2, y4.mono (.refl G2) fun o z => up this o z⟩
          | _ => exact w
end
/-! ### d[k] = v of an own dict -/
def dctPut (ks : List Key) (vs : List D) (k : Key) (d : D) : D := if (ks.any fun k' => decide (k' = k)) = true then .dct ks (List.zipWith (fun k' x => if k' = k then d else x) ks vs) else .dct (ks ++ [k]) (vs ++ [d])
theorem zipWith_rep {K : PySem.W.Frag} {cl : Cw} {G : Hp} {v : V} {d : D} {k : Key} (r : Rep K cl G v d) : ∀ {vs : List D} {xs : List V}, RepL K cl G xs vs → ∀ (ks : List Key), RepL K cl G (List.zipWith (fun k' x => if k' = k then v else x) ks xs) (List.zipWith (fun k' x => if k' = k then d else x) ks vs)
  | [], _, h, ks => by
    cases h
    cases ks <;> exact .nil
  | y :: vs, _, h, ks => by
    cases h with
    | cons h1 h2 =>
      cases ks with
      | nil => exact .nil
      | cons k' ks =>
        refine .cons ?_ (zipWith_rep r h2 ks)
        by_cases q : k' = k
        · dsimp only; rw [if_pos q, if_pos q]; exact r
        · dsimp only; rw [if_neg q, if_neg q]; exact h1
theorem zip_zipWith {v : V} {k : Key} : ∀ (ks : List Key) (xs : List V), ks.length = xs.length → ks.zip (List.zipWith (fun k' x => if k' = k then v else x) ks xs) = (ks.zip xs).map fun kv => if kv.1 = k then (kv.1, v) else kv
  | [], [], _ => rfl
  | k' :: ks, x :: xs, h => by
    have ih := zip_zipWith (v := v) (k := k) ks xs (Nat.succ.inj h)
    by_cases q : k' = k
    · show (k', if k' = k then v else x) :: ks.zip _ = (if k' = k then (k', v) else (k', x)) :: _
      rw [ih, if_pos q, if_pos q]; rfl
    · show (k', if k' = k then v else x) :: ks.zip _ = (if k' = k then (k', v) else (k', x)) :: _
      rw [ih, if_neg q, if_neg q]; rfl
  | [], _ :: _, h => by cases h
  | _ :: _, [], h => by cases h
theorem any_zip {k : Key} {α : Type} : ∀ (ks : List Key) (xs : List α), ks.length = xs.length → ((ks.zip xs).any fun kv => decide (kv.1 = k)) = ks.any fun k' => decide (k' = k)
  | [], [], _ => rfl
  | k' :: ks, x :: xs, h => by
    have ih := any_zip (k := k) ks xs (Nat.succ.inj h)
    show (decide (k' = k) || ((ks.zip xs).any fun kv => decide (kv.1 = k))) = (decide (k' = k) || ks.any fun k' => decide (k' = k))
    rw [ih]
  | [], _ :: _, h => by cases h
  | _ :: _, [], h => by cases h
def sPutK (j : Nat) (fe fi : DE) : DS := fun δ => (fe δ).to fun v δ1 => match look δ1 j with
  | some _ => (fi δ1).to fun i δ2 => match look δ2 j, toKey i with
    | some (.dct ks vs), some k => if ks.length < sizeLine then oNx (putV j (dctPut ks vs k v) δ2) else .st
    | _, _ => .st
  | none => .st
section
variable {c : Cf} {X : Cx} {o i e : Expr} {j : Nat} {fe fi : DE} {tp pos : Pos}
theorem js_putK (hu : X.A.units + 65 < cLine) (po : PE X o (tVar j)) (hi : JE c X i fi) (he : JE c X e fe) (hs : swapsWith e (some (.Subscript o i tp)) pos.line X.env = pure false := by rfl) : JS c X (.Assign [.Subscript o i tp] e pos) (sPutK j fe fi) := by
  refine js_of (ps_dput (by omega) po (peS X i) (peS X e) hs) fun R H0 G0 H G σ δ D' k h => ?_
  refine he R H0 G0 H G σ δ _ k (EPost.imp (SPost.ofE h) fun v H1 ⟨G1, d, δ1, s1, k1, r1, h1⟩ => ?_)
  cases q0 : look δ1 j with
  | none => rw [q0] at h1; exact h1.elim
  | some d0 =>
    rw [q0] at h1
    obtain ⟨u, eu, _⟩ := look_ok k1 q0
    refine ⟨u, eu, hi R H0 G0 H1 G1 σ δ1 _ k1 (EPost.imp (SPost.ofE h1) fun y H2 ⟨G2, e2, δ2, s2, k2, r2, h2⟩ => ?_)⟩
    cases q1 : look δ2 j with
    | none => simp only [q1] at h2; exact h2.elim
    | some d1 =>
      cases d1 with
      | dct ks vs =>
        simp only [q1] at h2
        cases q2 : toKey e2 with
        | none => simp only [q2] at h2; exact h2.elim
        | some key =>
          simp only [q2] at h2
          by_cases hz : ks.length < sizeLine
          · rw [if_pos hz] at h2
            cases q3 : putV j (dctPut ks vs key d) δ2 with
            | none => simp only [q3] at h2; exact h2.elim
            | some δ3 =>
              simp only [q3] at h2
              obtain ⟨a, ea, kk⟩ := ownd_put k2 q3
              rw [eu] at ea
              cases ea
              obtain ⟨xs, x1, x2, x3⟩ := look_own k2 q1 q3 eu
              have ek := toKey_ok r2 q2
              subst ek
              refine ⟨a, _, rfl, .inl ⟨_, key, x1, rfl, ?_, rfl⟩, ?_⟩
              · rw [List.length_zip]; omega
              · refine h2 σ _ G2 (.refl G2) (kk _ ?_)
                unfold putK
                rw [any_zip ks xs x2]
                unfold dctPut
                by_cases hc : (ks.any fun k' => decide (k' = key)) = true
                · rw [if_pos hc, if_pos hc]
                  exact ⟨_, by rw [upd_same, zip_zipWith ks xs x2], by rw [List.length_zipWith]; omega, zipWith_rep (Rep.mono s2 r1) x3 ks⟩
                · rw [if_neg hc, if_neg hc]
                  exact ⟨xs ++ [v], by rw [upd_same, List.zip_append x2]; rfl, by simp [x2], x3.append (.cons (Rep.mono s2 r1) .nil)⟩
          · rw [if_neg hz] at h2; exact h2.elim
      | _ => simp only [q1] at h2; exact h2.elim
end
end DL

set_option maxRecDepth 100000
set_option maxHeartbeats 4000000
namespace DL
open PySem PySem.Spec PyProof.Rows L2

def clsBody : Stmt → List Stmt
  | .ClassDef _ _ _ b _ _ _ _ _ _ _ => b
  | _ => []
/-! ### a hook: facts, defs at any address, further tests -/
abbrev AlZ : Type := Bool × He.AlD
def obsZ (fa : List He.Fa) (fn : List He5.DefA) (ex : List (PySem.W.Frag → Bool)) (K : PySem.W.Frag) : AlZ := (ex.all fun t => t K, He5.obsA fa fn K)
def obsZG (n : Nat) (fa : List He.Fa) (fn : List He5.DefA) (ex : List (PySem.W.Frag → Bool)) (g : Addr → Option Obj) : AlZ := obsZ fa fn ex (He.frG g (He.asD g n))
def SaysZ (fa : List He.Fa) (fn : List He5.DefA) (ex : List (PySem.W.Frag → Bool)) (K : PySem.W.Frag) : Prop := obsZ fa fn ex K = (true, He5.valA fn)
def hookZ (n : Nat) (fa : List He.Fa) (fn : List He5.DefA) (ex : List (PySem.W.Frag → Bool)) : PySem.W.Hook where
  α := AlZ
  obs s := obsZG n fa fn ex s.heap.get?
  val _ := (true, He5.valA fn)
  says _ h := ∃ K : PySem.W.Frag, K.In h ∧ SaysZ fa fn ex K
  of _ _ e := ⟨_, He.frG_in, e⟩
  keeps := fun _ _ _ ⟨K, hK, c⟩ k => ⟨K, PySem.W.Frag.In.keeps hK k, c⟩
theorem obsZG_eq {n : Nat} {fa : List He.Fa} {fn : List He5.DefA} {ex : List (PySem.W.Frag → Bool)} {g : Addr → Option Obj} {s : Shared} (h : ∀ a, g a = s.heap.get? a) : obsZG n fa fn ex g = (hookZ n fa fn ex).obs s := congrArg (obsZG n fa fn ex) (funext h)
theorem SaysZ.a {fa : List He.Fa} {fn : List He5.DefA} {ex : List (PySem.W.Frag → Bool)} {K : PySem.W.Frag} (c : SaysZ fa fn ex K) : He5.SaysA fa fn K := congrArg (fun z : AlZ => z.2) c
theorem SaysZ.ex {fa : List He.Fa} {fn : List He5.DefA} {ex : List (PySem.W.Frag → Bool)} {K : PySem.W.Frag} (c : SaysZ fa fn ex K) (i : Nat) {t : PySem.W.Frag → Bool} (h : ex[i]? = some t := by rfl) : t K = true :=
  List.all_eq_true.mp (congrArg (fun z : AlZ => z.1) c) t (List.mem_of_getElem? h)
/-! ### properties -/
def propG (K : PySem.W.Frag) (C : Addr) (f : Str) : Addr := match PySem.W.recIn K (He.ma K C f) "property" with
  | some (.ref g :: _) => g
  | _ => 0
def propB (K : PySem.W.Frag) (C : Addr) (f : Str) : Bool :=
  He.eqO (PySem.W.findIn K (.ref C) f) (some (some (.ref (He.ma K C f)))) && (He.eqO (PySem.W.specialIn K (.ref (He.ma K C f)) "__get__") (some (some (.builtin "property.__get__"))) && (decide (PySem.W.takesIn K (.ref (He.ma K C f)) = some true) && (match PySem.W.recIn K (He.ma K C f) "property" with
    | some (.ref _ :: _) => true
    | _ => false)))
theorem propB_ok {K : PySem.W.Frag} {C : Addr} {f : Str} (h : propB K C f = true) : PropOf K C f (He.ma K C f) (propG K C f) := by
  obtain ⟨h1, h⟩ := He.ba h
  obtain ⟨h2, h⟩ := He.ba h
  obtain ⟨h3, h⟩ := He.ba h
  refine ⟨He.eqO_ok h1, He.eqO_ok h2, of_decide_eq_true h3, ?_⟩
  unfold propG
  cases q : PySem.W.recIn K (He.ma K C f) "property" with
  | none => rw [q] at h; cases h
  | some l =>
    rw [q] at h
    cases l with
    | nil => cases h
    | cons v r =>
      cases v with
      | ref g => exact ⟨r, rfl⟩
      | _ => cases h
end DL

set_option maxRecDepth 100000
set_option maxHeartbeats 4000000
/-! the plain functions, reckoned from within: instances, sets, dicts -/
namespace DL
open PySem PySem.Spec PyProof.Rows L2
def fldO (cs : List Str) (f : Str) : D → Option D
  | .ins c ns vs => if cs.contains c = true then (ns.zip vs).lookup f else none
  | _ => none
def recvK (c m : Str) (fs : DA) : EO D → EO (List AV)
  | .ok x δ => if isIns c m x = true then consK2 x (fs δ) else .st
  | .ex c n d δ => .ex c n d δ
  | .st => .st
def propE (δ : DEnv) : FO → EO D
  | .ret d [] => .ok d δ
  | _ => .st
def propK (cn : Str) (fn : List D → FO) : EO D → EO D
  | .ok (.ins c' ns vs) δ => if c' = cn then propE δ (fn [.ins c' ns vs]) else .st
  | .ok _ _ => .st
  | .ex c n d δ => .ex c n d δ
  | .st => .st
def makeE (δ : DEnv) : FO → EO D
  | .ret .non [r] => .ok r δ
  | .ex c n d [_] => .ex c n d δ
  | _ => .st
def makeK2 (cn : Str) (ks : List Bool) (dvs : List D) (fn : List D → FO) (δ : DEnv) : Option (List D) → EO D
  | none => .st
  | some ds => if ks = true :: (ds ++ dvs).map (fun _ => false) then makeE δ (fn (.ins cn [] [] :: (ds ++ dvs))) else .st
def makeK (cn : Str) (ks : List Bool) (dvs : List D) (fn : List D → FO) : EO (List AV) → EO D
  | .ok as δ => makeK2 cn ks dvs fn δ (avs as)
  | .ex c n d δ => .ex c n d δ
  | .st => .st
def pfK2 (cs : List Str) (j : Nat) (f : Str) (v : D) (δ : DEnv) : Option D → SO
  | some (.ins c ns vs) => if cs.contains c = true ∧ ns.length < 1000 then oNx (putV j (.ins c (putN f ns) (putD f v ns vs)) δ) else .st
  | _ => .st
def pfK (cs : List Str) (j : Nat) (f : Str) : EO D → SO
  | .ok v δ => pfK2 cs j f v δ (look δ j)
  | .ex c n d δ => .ex c n d δ
  | .st => .st
def lkvK (δ : DEnv) : Option D → EO D
  | some (.dct ks _) => .ok (.lst (ks.map keyD)) δ
  | _ => .st
def dct2 (δ : DEnv) (y : D) : Option Key → EO D
  | some k => .ok (.dct [k] [y]) δ
  | none => .st
def dct1K2 (x : D) : EO D → EO D
  | .ok y δ => dct2 δ y (toKey x)
  | .ex c n d δ => .ex c n d δ
  | .st => .st
def dct1K (fv : DE) : EO D → EO D
  | .ok x δ => dct1K2 x (fv δ)
  | .ex c n d δ => .ex c n d δ
  | .st => .st
def pkK3 (j : Nat) (v : D) (δ : DEnv) : Option D → Option Key → SO
  | some (.dct ks vs), some k => if ks.length < sizeLine then oNx (putV j (dctPut ks vs k v) δ) else .st
  | _, _ => .st
def pkK2 (j : Nat) (v : D) : EO D → SO
  | .ok i δ => pkK3 j v δ (look δ j) (toKey i)
  | .ex c n d δ => .ex c n d δ
  | .st => .st
def pkK1 (j : Nat) (fi : DE) (v : D) (δ : DEnv) : Option D → SO
  | some _ => pkK2 j v (fi δ)
  | none => .st
def pkK (j : Nat) (fi : DE) : EO D → SO
  | .ok v δ => pkK1 j fi v δ (look δ j)
  | .ex c n d δ => .ex c n d δ
  | .st => .st
section
variable (δ : DEnv) (fa fb : DE) (fs : DA) (i j : Nat) (c f m : Str) (cs : List Str) (ks : List Bool) (dvs : List D) (fn : List D → FO)
theorem a_fld : dFld cs f fa δ = unK (fldO cs f) (fa δ) := by
  unfold dFld
  cases fa δ with
  | ok x δ1 =>
    cases x with
    | ins c ns vs =>
      show (if cs.contains c = true then (match (ns.zip vs).lookup f with | some d => EO.ok d δ1 | none => .st) else .st) = oE (if cs.contains c = true then (ns.zip vs).lookup f else none) δ1
      split
      · cases (ns.zip vs).lookup f <;> rfl
      · rfl
    | _ => rfl
  | ex c n d δ => rfl
  | st => rfl
theorem a_meth : dMeth c m ks dvs fn fa fs δ = callK endK ks dvs fn (recvK c m fs (fa δ)) := by
  unfold dMeth
  rw [call_eq]
  congr 1
  unfold dRecv
  cases fa δ with
  | ok x δ1 =>
    show (if isIns c m x = true then (fs δ1).bind fun xs δ2 => .ok (.v x :: xs) δ2 else .st) = if isIns c m x = true then consK2 x (fs δ1) else .st
    split
    · cases fs δ1 <;> rfl
    · rfl
  | ex c n d δ => rfl
  | st => rfl
theorem a_recv (x : D) (h : isIns c m x = true) : recvK c m fs (.ok x δ) = consK2 x (fs δ) := if_pos h
theorem a_prop : dProp c f fn fa δ = propK c fn (fa δ) := by
  unfold dProp
  cases fa δ with
  | ok x δ1 =>
    cases x with
    | ins c' ns vs =>
      show (if c' = c then (match fn [.ins c' ns vs] with | .ret d [] => EO.ok d δ1 | _ => .st) else .st) = if c' = c then propE δ1 (fn [.ins c' ns vs]) else .st
      split
      · cases fn [.ins c' ns vs] with
        | ret d rs => cases rs <;> rfl
        | _ => rfl
      · rfl
    | _ => rfl
  | ex c n d δ => rfl
  | st => rfl
theorem a_propK (ns : List Str) (vs : List D) : propK c fn (.ok (.ins c ns vs) δ) = propE δ (fn [.ins c ns vs]) := if_pos rfl
theorem a_propE (d : D) : propE δ (.ret d []) = .ok d δ := rfl
theorem a_make : dMake c ks dvs fn fs δ = makeK c ks dvs fn (fs δ) := by
  unfold dMake
  cases fs δ with
  | ok as δ1 =>
    show (match avs as with | none => EO.st | some ds => if ks = true :: (ds ++ dvs).map (fun _ => false) then (match fn (.ins c [] [] :: (ds ++ dvs)) with | .ret .non [r] => .ok r δ1 | .ex c ns es [_] => .ex c ns es δ1 | _ => .st) else .st) = makeK2 c ks dvs fn δ1 (avs as)
    cases avs as with
    | none => rfl
    | some ds =>
      show (if ks = true :: (ds ++ dvs).map (fun _ => false) then (match fn (.ins c [] [] :: (ds ++ dvs)) with | .ret .non [r] => EO.ok r δ1 | .ex c ns es [_] => .ex c ns es δ1 | _ => .st) else .st) = if ks = true :: (ds ++ dvs).map (fun _ => false) then makeE δ1 (fn (.ins c [] [] :: (ds ++ dvs))) else .st
      split
      · cases fn (.ins c [] [] :: (ds ++ dvs)) with
        | ret d rs =>
          cases d with
          | non =>
            match rs with
            | [] => rfl
            | [r] => rfl
            | _ :: _ :: _ => rfl
          | _ => rfl
        | ex c n d rs =>
          match rs with
          | [] => rfl
          | [r] => rfl
          | _ :: _ :: _ => rfl
        | _ => rfl
      · rfl
  | ex c n d δ => rfl
  | st => rfl
theorem a_makeK (as : List AV) : makeK c ks dvs fn (.ok as δ) = makeK2 c ks dvs fn δ (avs as) := rfl
theorem a_makeK2 (ds : List D) (h : ks = true :: (ds ++ dvs).map (fun _ => false)) : makeK2 c ks dvs fn δ (some ds) = makeE δ (fn (.ins c [] [] :: (ds ++ dvs))) := if_pos h
theorem a_makeE (r : D) : makeE δ (.ret .non [r]) = .ok r δ := rfl
theorem a_makeX (cn : Str) (n : List Str) (d : List D) (r : D) : makeE δ (.ex cn n d [r]) = .ex cn n d δ := rfl
theorem a_putF : sPutF cs j f fa δ = pfK cs j f (fa δ) := by
  unfold sPutF
  cases fa δ with
  | ok x δ1 =>
    show (match look δ1 j with | some (.ins c ns vs) => if cs.contains c = true ∧ ns.length < 1000 then oNx (putV j (.ins c (putN f ns) (putD f x ns vs)) δ1) else .st | _ => .st) = pfK2 cs j f x δ1 (look δ1 j)
    cases look δ1 j with
    | none => rfl
    | some d => cases d <;> rfl
  | ex c n d δ => rfl
  | st => rfl
theorem a_pfK (v : D) : pfK cs j f (.ok v δ) = pfK2 cs j f v δ (look δ j) := rfl
theorem a_pfK2 (v : D) (ns : List Str) (vs : List D) (h : cs.contains c = true) (hl : ns.length < 1000) : pfK2 cs j f v δ (some (.ins c ns vs)) = oNx (putV j (.ins c (putN f ns) (putD f v ns vs)) δ) := if_pos ⟨h, hl⟩
theorem a_lkv : dLKV j δ = lkvK δ (look δ j) := by
  unfold dLKV
  cases look δ j with
  | none => rfl
  | some d => cases d <;> rfl
theorem a_lkvK (k : List Key) (vs : List D) : lkvK δ (some (.dct k vs)) = .ok (.lst (k.map keyD)) δ := rfl
theorem a_dct1 : dDct1 fa fb δ = dct1K fb (fa δ) := by
  unfold dDct1
  cases fa δ with
  | ok x δ1 =>
    show (fb δ1).bind _ = dct1K2 x (fb δ1)
    cases fb δ1 with
    | ok y δ2 => show (match toKey x with | some k => EO.ok (.dct [k] [y]) δ2 | none => .st) = dct2 δ2 y (toKey x); cases toKey x <;> rfl
    | ex c n d δ => rfl
    | st => rfl
  | ex c n d δ => rfl
  | st => rfl
theorem a_dct1K (x : D) : dct1K fb (.ok x δ) = dct1K2 x (fb δ) := rfl
theorem a_dct1K2 (x y : D) : dct1K2 x (.ok y δ) = dct2 δ y (toKey x) := rfl
theorem a_dct2 (y : D) (k : Key) : dct2 δ y (some k) = .ok (.dct [k] [y]) δ := rfl
theorem a_key (n : Int) : toKey (.int n) = some (.inl n) := rfl
theorem a_putK : sPutK j fa fb δ = pkK j fb (fa δ) := by
  unfold sPutK
  cases fa δ with
  | ok x δ1 =>
    show (match look δ1 j with | some _ => (fb δ1).to _ | none => .st) = pkK1 j fb x δ1 (look δ1 j)
    cases look δ1 j with
    | none => rfl
    | some d =>
      show (fb δ1).to _ = pkK2 j x (fb δ1)
      cases fb δ1 with
      | ok y δ2 =>
        show (match look δ2 j, toKey y with | some (.dct ks vs), some k => if ks.length < sizeLine then oNx (putV j (dctPut ks vs k x) δ2) else .st | _, _ => .st) = pkK3 j x δ2 (look δ2 j) (toKey y)
        cases look δ2 j with
        | none => rfl
        | some d => cases d <;> cases toKey y <;> rfl
      | ex c n d δ => rfl
      | st => rfl
  | ex c n d δ => rfl
  | st => rfl
theorem a_pk0 (v : D) : pkK j fb (.ok v δ) = pkK1 j fb v δ (look δ j) := rfl
theorem a_pk1 (v d : D) : pkK1 j fb v δ (some d) = pkK2 j v (fb δ) := rfl
theorem a_pk2 (v i : D) : pkK2 j v (.ok i δ) = pkK3 j v δ (look δ j) (toKey i) := rfl
theorem a_pk3 (v : D) (kk : List Key) (vs : List D) (k : Key) (h : kk.length < sizeLine) : pkK3 j v δ (some (.dct kk vs)) (some k) = oNx (putV j (dctPut kk vs k v) δ) := if_pos h
end
def rg2 : D → D → Option (List D)
  | .int i, .int j => if -(2 ^ 62) ≤ i ∧ i < 2 ^ 62 ∧ -(2 ^ 62) ≤ j ∧ j < 2 ^ 62 then some (rngD i j) else none
  | _, _ => none
def oL : Option (List D) → DEnv → EO (List D)
  | some z, δ => .ok z δ
  | none, _ => .st
def rg2K2 (x : D) : EO D → EO (List D)
  | .ok y δ => oL (rg2 x y) δ
  | .ex c n d δ => .ex c n d δ
  | .st => .st
def rg2K (fb : DE) : EO D → EO (List D)
  | .ok x δ => rg2K2 x (fb δ)
  | .ex c n d δ => .ex c n d δ
  | .st => .st
section
variable (δ : DEnv) (fa fb : DE)
theorem a_rg2 : dRg2 fa fb δ = rg2K fb (fa δ) := by
  unfold dRg2
  cases fa δ with
  | ok x δ1 =>
    show (fb δ1).bind _ = rg2K2 x (fb δ1)
    cases fb δ1 with
    | ok y δ2 =>
      cases x with
      | int i =>
        cases y with
        | int j =>
          show (if -(2 ^ 62) ≤ i ∧ i < 2 ^ 62 ∧ -(2 ^ 62) ≤ j ∧ j < 2 ^ 62 then EO.ok (rngD i j) δ2 else .st) = oL (if -(2 ^ 62) ≤ i ∧ i < 2 ^ 62 ∧ -(2 ^ 62) ≤ j ∧ j < 2 ^ 62 then some (rngD i j) else none) δ2
          split <;> rfl
        | _ => rfl
      | _ => cases y <;> rfl
    | ex c n d δ => rfl
    | st => rfl
  | ex c n d δ => rfl
  | st => rfl
theorem a_rg2K (x : D) : rg2K fb (.ok x δ) = rg2K2 x (fb δ) := rfl
theorem a_rg2K2 (x y : D) : rg2K2 x (.ok y δ) = oL (rg2 x y) δ := rfl
theorem a_oL (l : List D) : oL (some l) δ = .ok l δ := rfl
end
end DL

set_option maxRecDepth 100000
set_option maxHeartbeats 2000000
namespace LW
open PySem PySem.Spec PyProof.Rows L2 DL
theorem log_lt {i : Int} {k : Nat} (h : i.natAbs < 2 ^ k) (hk : 0 < k) : i.natAbs.log2 < k := by
  by_cases z : i.natAbs = 0
  · rw [z]; simpa using hk
  · exact (Nat.log2_lt z).mpr h
theorem mul_ok {i j : Int} (h1 : i.natAbs < 2 ^ 64) (h2 : j.natAbs < 2 ^ 64) : cMul i j = true := by
  have a := log_lt h1 (by decide)
  have b := log_lt h2 (by decide)
  exact decide_eq_true (by omega)
theorem pos_ok {i j : Int} (h : 0 < j) : cPos i j = true := decide_eq_true h
theorem div_ok {i j : Int} (h : 0 < j) (h2 : j.natAbs < 2 ^ 64) : cDiv i j = true := decide_eq_true ⟨h, by have := log_lt h2 (by decide); omega⟩
theorem int1 (i : Int) : gInt1 [.int i] = some (.int i) := rfl
theorem abs1 (i : Int) : gAbs [.int i] = some (.int (if i < 0 then -i else i)) := rfl
theorem app_lt {n : Nat} (h : n ≤ 63) : n < sizeLine := by rw [sizeLine_eq]; omega
theorem le_line {n : Nat} (h : n ≤ 4096) : n ≤ sizeLine := by rw [sizeLine_eq]; omega
theorem gLst4 (a b c d : D) : gLstD [a, b, c, d] = some (.lst [a, b, c, d]) := if_pos (le_line (by show 4 ≤ 4096; decide))
theorem gLst0 : gLstD [] = some (.lst []) := if_pos (Nat.zero_le _)
theorem ints_inj {k ns : List Int} (e : ns.map D.int = k.map D.int) : k = ns := by
  have := congrArg (List.map fun d : D => match d with | .int i => i | _ => 0) e
  simpa [List.map_map, Function.comp_def] using this.symm
theorem ix0 (a b c d : D) : idxD (.lst [a, b, c, d]) (.int 0) = some a := rfl
theorem ix1 (a b c d : D) : idxD (.lst [a, b, c, d]) (.int 1) = some b := rfl
theorem ix2 (a b c d : D) : idxD (.lst [a, b, c, d]) (.int 2) = some c := rfl
theorem ix3' (a b c d : D) : idxD (.lst [a, b, c, d]) (.int 3) = some d := rfl
theorem n4 (a b c d : D) : ([a, b, c, d] : List D).length = 4 := rfl
theorem x1 : ixN 4 1 = some 1 := rfl
theorem x2 : ixN 4 2 = some 2 := rfl
theorem x3 : ixN 4 3 = some 3 := rfl
theorem len_l (l : List D) : gLen [.lst l] = some (.int (l.length : Nat)) := rfl
theorem at_int (cs : List Int) (p : Int) (h0 : 0 ≤ p) (h1 : p < cs.length) : ∃ c, idxD (.lst (cs.map D.int)) (.int p) = some (.int c) ∧ c ∈ cs := by
  have hp : p.toNat < cs.length := by omega
  refine ⟨cs[p.toNat], ?_, List.getElem_mem hp⟩
  have e : ixN (cs.map D.int).length p = some p.toNat := by
    rw [List.length_map]
    unfold L2.ixN
    rw [if_pos h0, if_pos h1]
  show L2.atI (cs.map D.int) p = _
  unfold L2.atI
  rw [e]
  show (cs.map D.int)[p.toNat]? = _
  rw [List.getElem?_map, List.getElem?_eq_getElem hp]; rfl
theorem big : cPow 10 18 = true := rfl
theorem bigv : (10 : Int) ^ (18 : Int).toNat = 1000000000000000000 := rfl
theorem band (a b : Nat) : Builtin.bitAnd (a : Int) (b : Int) = ((a &&& b : Nat) : Int) := by
  rw [bitAnd_pp (Int.natCast_nonneg a) (Int.natCast_nonneg b), Int.toNat_natCast, Int.toNat_natCast]
theorem bor (a b : Nat) : Builtin.bitOr (a : Int) (b : Int) = ((a ||| b : Nat) : Int) := by
  rw [Bits.bitOr_pp (Int.natCast_nonneg a) (Int.natCast_nonneg b), Int.toNat_natCast, Int.toNat_natCast]
theorem shl1 (v : Nat) : (1 * 2 ^ ((v : Nat) : Int).toNat : Int) = ((2 ^ v : Nat) : Int) := by
  rw [Int.toNat_natCast, Int.one_mul]; simp
theorem tb (l i : Nat) : (Builtin.bitAnd ((l : Int) / 2 ^ ((i : Nat) : Int).toNat) 1 != 0) = l.testBit i := by
  have e : ((l : Int) / 2 ^ ((i : Nat) : Int).toNat) = ((l / 2 ^ i : Nat) : Int) := by rw [Int.toNat_natCast]; simp
  rw [e, bitAnd_m1, Nat.testBit_eq_decide_div_mod_eq]
  generalize l / 2 ^ i = k
  by_cases h : k % 2 = 1
  · rw [decide_eq_true h]; simp; omega
  · rw [decide_eq_false h]; simp; omega
theorem tb2 (l i : Nat) : ((((l : Int) / 2 ^ ((i : Nat) : Int).toNat) % 2) == 1) = l.testBit i := by
  have e : ((l : Int) / 2 ^ ((i : Nat) : Int).toNat) = ((l / 2 ^ i : Nat) : Int) := by rw [Int.toNat_natCast]; simp
  rw [e, Nat.testBit_eq_decide_div_mod_eq]
  generalize l / 2 ^ i = k
  by_cases h : k % 2 = 1
  · rw [decide_eq_true h]; simp; omega
  · rw [decide_eq_false h]; simp; omega
theorem wib (a l : Nat) : (Builtin.bitAnd (a : Int) (Builtin.bitNot (l : Int)) == 0) = decide (a &&& l = a) := by
  rw [bitAnd_not, band]
  have : a &&& l ≤ a := Nat.and_le_left
  by_cases h : a &&& l = a
  · rw [decide_eq_true h, h]; simp
  · rw [decide_eq_false h]; simp; omega
theorem wib2 (a l : Nat) : (Builtin.bitAnd (a : Int) (l : Int) == (a : Int)) = decide (a &&& l = a) := by
  rw [band]
  by_cases h : a &&& l = a
  · rw [decide_eq_true h, h]; simp
  · rw [decide_eq_false h]; simp; omega
theorem cnn (x : Int) (n : Nat) : cNon x ((n : Nat) : Int) = true := decide_eq_true (Int.natCast_nonneg n)
theorem cpw {n : Nat} (h : n ≤ 64) : cPow 1 ((n : Nat) : Int) = true := decide_eq_true ⟨Int.natCast_nonneg n, by omega, by decide⟩
theorem rng0 (n : Nat) : rngD 0 ((n : Nat) : Int) = (List.range n).map fun i => D.int ((i : Nat) : Int) := by
  unfold rngD
  rw [Int.sub_zero, Int.toNat_natCast]
  exact List.map_congr_left fun i _ => by rw [Int.zero_add]
theorem itr (n : Nat) (h : n ≤ 4096) (δ : DEnv) : itK1 rg1 (.ok (.int ((n : Nat) : Int)) δ) = .ok ((List.range n).map fun i => D.int ((i : Nat) : Int)) δ := by
  rw [a_itR, rng0]
  exact ⟨by omega, by omega⟩
def Nr (s : Sl) : Prop := ∀ d, s ≠ .rf d
theorem nr_val (d : D) : Nr (.val d) := fun _ h => by cases h
theorem nr_un : Nr .un := fun _ h => by cases h
theorem set_nr {i : Nat} {d : D} {δ : DEnv} {s : Sl} (h : Nr s) : setVK i d δ (some s) = some (δ.set i (.val d)) := by
  cases s with
  | rf d => exact absurd rfl (h d)
  | _ => rfl
theorem unp2 (i j : Nat) (a b : D) (δ : DEnv) : dUnp [i, j] (.tup [a, b]) δ = (setV i a δ).bind fun δ1 => (setV j b δ1).bind some := rfl
def sq : Bool → List D → D
  | true, ds => .tup ds
  | false, ds => .lst ds
theorem sq_it (q : Bool) (ds : List D) (δ : DEnv) : itK1 dItems (.ok (sq q ds) δ) = .ok ds δ := by cases q <;> rfl
theorem sq_en (q : Bool) (ds : List D) (δ : DEnv) : itK1 (fun d => (seqD d).map (enumD 0)) (.ok (sq q ds) δ) = .ok (enumD 0 ds) δ := by cases q <;> rfl
theorem sq_tup (q : Bool) (ds : List D) : gTuple [sq q ds] = some (.tup ds) := by cases q <;> rfl
theorem sq_lst (q : Bool) (ds : List D) : gList [sq q ds] = some (.lst ds) := by cases q <;> rfl
theorem sq_len (q : Bool) (ds : List D) : lenD (sq q ds) = some ds.length := by cases q <;> rfl
theorem zp_sq (p q : Bool) (fb : DE) (ds es : List D) (δ : DEnv) : zpK2 (sq p ds) (.ok (sq q es) δ) = .ok (zipD ds es) δ := by cases p <;> cases q <;> rfl
theorem zp_1 (x : D) (fb : DE) (δ : DEnv) : zpK fb (.ok x δ) = zpK2 x (fb δ) := rfl
theorem ix_any {ds : List D} {k : Nat} {d : D} (q : Bool) (h : ds[k]? = some d) : idxD (sq q ds) (.int ((k : Nat) : Int)) = some d := by cases q <;> exact atI_nat h
def rgF (i n : Nat) : List D := (List.range' i n).map fun j => D.int ((j : Nat) : Int)
theorem rgF_succ (i n : Nat) : rgF i (n + 1) = .int ((i : Nat) : Int) :: rgF (i + 1) n := by unfold rgF; rw [List.range'_succ]; rfl
theorem itF (n : Nat) (h : n ≤ 4096) (δ : DEnv) : itK1 rg1 (.ok (.int ((n : Nat) : Int)) δ) = .ok (rgF 0 n) δ := by
  rw [itr n h]; unfold rgF; rw [List.range_eq_range']
theorem p2 (i : Int) : cPos i 2 = true := rfl
theorem isi_int (Ts : List String) (i : Int) : Option.map (fun t => D.bl (Ts.any (subT t))) (tyD (.int i)) = some (.bl (Ts.any (subT "int"))) := rfl
theorem isi_tup (Ts : List String) (ds : List D) : Option.map (fun t => D.bl (Ts.any (subT t))) (tyD (.tup ds)) = some (.bl (Ts.any (subT "tuple"))) := rfl
theorem s1 : (["tuple"].any (subT "int")) = false := by decide
theorem s2 : (["tuple"].any (subT "tuple")) = true := by decide
theorem s3 : (["bool"].any (subT "int")) = false := by decide
theorem s4 : (["str"].any (subT "int")) = false := by decide
theorem s5 : (["int"].any (subT "int")) = true := by decide
theorem is_non (i : Int) : gIs false (.int i) .non = some (.bl false) ∧ gIs true (.int i) .non = some (.bl true) := ⟨rfl, rfl⟩
theorem mem_rgF {n : Nat} {d : D} (h : d ∈ rgF 0 n) : ∃ k, k < n ∧ d = .int ((k : Nat) : Int) := by
  unfold rgF at h
  obtain ⟨k, hk, rfl⟩ := List.mem_map.mp h
  have := List.mem_range'.mp hk
  obtain ⟨i, hi, rfl⟩ := this
  exact ⟨0 + 1 * i, by omega, rfl⟩
theorem rgF_len (i n : Nat) : (rgF i n).length = n := by unfold rgF; simp
theorem drop_at {all : List Nat} {i a : Nat} {r : List Nat} (h : all.drop i = a :: r) : all[i]? = some a ∧ all.drop (i + 1) = r := by
  constructor
  · have : (all.drop i)[0]? = some a := by rw [h]; rfl
    rw [List.getElem?_drop] at this
    simpa using this
  · have : (all.drop i).drop 1 = r := by rw [h]; rfl
    rw [List.drop_drop] at this
    exact this
theorem pw_lt {t v : Nat} (h : t < v) : 2 ^ t < 2 ^ v := Nat.pow_lt_pow_right (by decide) h
theorem nz (t : Nat) (h : t ≠ 0) : ((t : Int) != 0) = true := by simp; omega
theorem nz0 : (((0 : Nat) : Int) != 0) = false := rfl
theorem isi_sq (q : Bool) (ds : List D) : Option.map (fun t => D.bl ((["list", "tuple"] : List String).any (subT t))) (tyD (sq q ds)) = some (.bl true) := by
  cases q
  · show some (D.bl ((["list", "tuple"] : List String).any (subT "list"))) = _
    rw [show ((["list", "tuple"] : List String).any (subT "list")) = true by decide]
  · show some (D.bl ((["list", "tuple"] : List String).any (subT "tuple"))) = _
    rw [show ((["list", "tuple"] : List String).any (subT "tuple")) = true by decide]
theorem gNe_bl (a b : Bool) : gEq true (.bl a) (.bl b) = some (.bl (!(a == b))) := by cases a <;> cases b <;> rfl
theorem comp_pure {A : D → DEnv → Option DEnv} {el : DE} {vs : List Nat} {δ : DEnv} {Γ : D → DEnv} (g : D → D) (ds : List D) (hv : vsFree vs δ = true) (hA : ∀ z, A z (blkEnv vs δ) = some (Γ z)) (hb : ∀ z, backEnv δ (Γ z) = δ) (hl : ds.length ≤ 4096) (h : ∀ d ∈ ds, el (Γ d) = .ok (g d) (Γ d)) :
    compL A dYes el vs ds δ [] = .ok (.lst (ds.map g)) δ := by
  rw [comp_map A dYes el vs (fun _ => true) g hv ds [] (le_line (by simpa using hl)) fun d hd => ⟨Γ d, Γ d, hA d, rfl, (fun z => by cases z), fun _ => ⟨Γ d, h d hd, hb d⟩⟩, List.nil_append, List.filter_eq_self.mpr fun _ _ => rfl]
def Pv (s : Sl) : Prop := s = .un ∨ ∃ d, s = .val d
theorem pv_nr {s : Sl} (h : Pv s) : Nr s := by rcases h with rfl | ⟨d, rfl⟩ <;> exact fun _ z => by cases z
theorem pv_o {s : Sl} (h : Pv s) : isO s = false := by rcases h with rfl | ⟨d, rfl⟩ <;> rfl
end LW

set_option maxRecDepth 100000
set_option maxHeartbeats 2000000
namespace LW
open PySem PySem.Spec PyProof.Rows L2 DL
/-! ### lots as numbers -/
def Wi (a b : Nat) : Prop := a &&& b = a
theorem wi_bit {a b : Nat} : Wi a b ↔ ∀ j, a.testBit j = true → b.testBit j = true := by
  constructor
  · intro h j hj
    have : (a &&& b).testBit j = true := by rw [h]; exact hj
    rw [Nat.testBit_and, Bool.and_eq_true] at this
    exact this.2
  · intro h
    refine Nat.eq_of_testBit_eq fun j => ?_
    rw [Nat.testBit_and]
    cases e : a.testBit j with
    | false => rfl
    | true => rw [h j e]; rfl
/-- the next lot: the rows' lots from place i on -/
def nx : List Nat → Nat → Nat → Nat → Nat
  | [], _, _, acc => acc
  | a :: r, l, i, acc => nx r l (i + 1) (if l.testBit i then acc ||| a else acc)
def bk : List Nat → Nat → Nat → Nat → Nat
  | [], _, _, acc => acc
  | a :: r, g, i, acc => bk r g (i + 1) (if a &&& g = a then acc ||| 2 ^ i else acc)
theorem nx_bit : ∀ (r : List Nat) (l i acc j : Nat), (nx r l i acc).testBit j = true ↔ acc.testBit j = true ∨ ∃ k a, r[k]? = some a ∧ l.testBit (i + k) = true ∧ a.testBit j = true
  | [], l, i, acc, j => by simp [nx]
  | a :: r, l, i, acc, j => by
    rw [nx, nx_bit r l (i + 1) _ j]
    constructor
    · rintro (h | ⟨k, b, h1, h2, h3⟩)
      · by_cases hl : l.testBit i = true
        · rw [if_pos hl, Nat.testBit_or, Bool.or_eq_true] at h
          rcases h with h | h
          · exact .inl h
          · exact .inr ⟨0, a, rfl, hl, h⟩
        · rw [if_neg hl] at h; exact .inl h
      · exact .inr ⟨k + 1, b, h1, by rw [show i + (k + 1) = i + 1 + k by omega]; exact h2, h3⟩
    · rintro (h | ⟨k, b, h1, h2, h3⟩)
      · left
        by_cases hl : l.testBit i = true
        · rw [if_pos hl, Nat.testBit_or, h]; rfl
        · rw [if_neg hl]; exact h
      · cases k with
        | zero =>
          left
          cases (show a = b from Option.some.inj h1)
          rw [if_pos (show l.testBit i = true from h2), Nat.testBit_or, h3, Bool.or_true]
        | succ k => exact .inr ⟨k, b, h1, by rw [show i + 1 + k = i + (k + 1) by omega]; exact h2, h3⟩
theorem bk_bit : ∀ (r : List Nat) (g i acc j : Nat), (bk r g i acc).testBit j = true ↔ acc.testBit j = true ∨ ∃ k a, r[k]? = some a ∧ j = i + k ∧ Wi a g
  | [], g, i, acc, j => by simp [bk]
  | a :: r, g, i, acc, j => by
    rw [bk, bk_bit r g (i + 1) _ j]
    constructor
    · rintro (h | ⟨k, b, h1, h2, h3⟩)
      · by_cases hl : a &&& g = a
        · rw [if_pos hl, Nat.testBit_or, Bool.or_eq_true] at h
          rcases h with h | h
          · exact .inl h
          · rw [Nat.testBit_two_pow, decide_eq_true_eq] at h
            exact .inr ⟨0, a, rfl, h.symm, hl⟩
        · rw [if_neg hl] at h; exact .inl h
      · exact .inr ⟨k + 1, b, h1, by omega, h3⟩
    · rintro (h | ⟨k, b, h1, h2, h3⟩)
      · left
        by_cases hl : a &&& g = a
        · rw [if_pos hl, Nat.testBit_or, h]; rfl
        · rw [if_neg hl]; exact h
      · cases k with
        | zero =>
          left
          cases (show a = b from Option.some.inj h1)
          rw [if_pos (show a &&& g = a from h3), Nat.testBit_or, Nat.testBit_two_pow, h2]
          simp
        | succ k => exact .inr ⟨k, b, h1, by omega, h3⟩
abbrev Nx (r : List Nat) (l : Nat) : Nat := nx r l 0 0
abbrev Bk (r : List Nat) (g : Nat) : Nat := bk r g 0 0
theorem Nx_bit {r : List Nat} {l j : Nat} : (Nx r l).testBit j = true ↔ ∃ k a, r[k]? = some a ∧ l.testBit k = true ∧ a.testBit j = true := by
  rw [nx_bit]; simp
theorem Bk_bit {r : List Nat} {g j : Nat} : (Bk r g).testBit j = true ↔ ∃ a, r[j]? = some a ∧ Wi a g := by
  rw [bk_bit]
  constructor
  · rintro (h | ⟨k, a, e1, e2, e3⟩)
    · simp at h
    · rw [Nat.zero_add] at e2
      subst e2
      exact ⟨a, e1, e3⟩
  · rintro ⟨a, e1, e2⟩
    exact .inr ⟨j, a, e1, (Nat.zero_add j).symm, e2⟩
theorem lt_bit {n v j : Nat} (h : n < 2 ^ v) (b : n.testBit j = true) : j < v := by
  refine Nat.lt_of_not_le fun hv => ?_
  have : n < 2 ^ j := Nat.lt_of_lt_of_le h (Nat.pow_le_pow_right (by decide) hv)
  rw [Nat.testBit_lt_two_pow this] at b
  cases b
theorem bit_lt {n v : Nat} (h : ∀ j, n.testBit j = true → j < v) : n < 2 ^ v := by
  refine Nat.lt_pow_two_of_testBit n fun j hj => ?_
  cases e : n.testBit j with
  | false => rfl
  | true => have := h j e; omega
theorem ext_bit {a b : Nat} (h : ∀ j, a.testBit j = true ↔ b.testBit j = true) : a = b := Nat.eq_of_testBit_eq fun j => Bool.eq_iff_iff.mpr (h j)
/-- next of l lies within g exactly if l lies within back of g -/
theorem adj {r : List Nat} {l g : Nat} (h : l < 2 ^ r.length) : Wi (Nx r l) g ↔ Wi l (Bk r g) := by
  rw [wi_bit, wi_bit]
  constructor
  · intro q j hj
    have hlt := lt_bit h hj
    refine Bk_bit.mpr ⟨r[j], List.getElem?_eq_getElem hlt, wi_bit.mpr fun k hk => q k (Nx_bit.mpr ⟨j, _, List.getElem?_eq_getElem hlt, hj, hk⟩)⟩
  · intro q j hj
    obtain ⟨k, a, e1, e2, e3⟩ := Nx_bit.mp hj
    obtain ⟨b, e4, e5⟩ := Bk_bit.mp (q k e2)
    rw [e1] at e4; cases e4
    exact wi_bit.mp e5 j e3
theorem nx_behind {r s : List Nat} {l : Nat} : Nx (r.map (Nx s)) l = Nx s (Nx r l) := by
  refine ext_bit fun j => ?_
  rw [Nx_bit, Nx_bit]
  constructor
  · rintro ⟨k, b, e1, e2, e3⟩
    rw [List.getElem?_map, Option.map_eq_some_iff] at e1
    obtain ⟨a, e1, rfl⟩ := e1
    obtain ⟨i, c, q1, q2, q3⟩ := Nx_bit.mp e3
    exact ⟨i, c, q1, Nx_bit.mpr ⟨k, a, e1, e2, q2⟩, q3⟩
  · rintro ⟨i, c, q1, q2, q3⟩
    obtain ⟨k, a, e1, e2, e3⟩ := Nx_bit.mp q2
    exact ⟨k, Nx s a, by rw [List.getElem?_map, e1]; rfl, e2, Nx_bit.mpr ⟨i, c, q1, e3, q3⟩⟩
theorem bk_behind {r s : List Nat} {g : Nat} (h : ∀ a ∈ r, a < 2 ^ s.length) : Bk (r.map (Nx s)) g = Bk r (Bk s g) := by
  refine ext_bit fun j => ?_
  rw [Bk_bit, Bk_bit]
  constructor
  · rintro ⟨b, e1, e2⟩
    rw [List.getElem?_map, Option.map_eq_some_iff] at e1
    obtain ⟨a, e1, rfl⟩ := e1
    exact ⟨a, e1, (adj (h a (List.mem_of_getElem? e1))).mp e2⟩
  · rintro ⟨a, e1, e2⟩
    exact ⟨Nx s a, by rw [List.getElem?_map, e1]; rfl, (adj (h a (List.mem_of_getElem? e1))).mpr e2⟩
def jn : List Nat → List Nat → List Nat
  | a :: r, b :: s => (a ||| b) :: jn r s
  | _, _ => []
theorem jn_at : ∀ {r s : List Nat} {k c : Nat}, (jn r s)[k]? = some c ↔ ∃ a b, r[k]? = some a ∧ s[k]? = some b ∧ c = a ||| b
  | [], s, k, c => by cases s <;> simp [jn]
  | a :: r, [], k, c => by simp [jn]
  | a :: r, b :: s, 0, c => by
    simp only [jn, List.getElem?_cons_zero, Option.some.injEq]
    constructor
    · intro h; exact ⟨a, b, rfl, rfl, h.symm⟩
    · rintro ⟨_, _, rfl, rfl, h⟩; exact h.symm
  | a :: r, b :: s, k + 1, c => by
    simp only [jn, List.getElem?_cons_succ]
    exact jn_at
theorem wi_or {a b g : Nat} : Wi (a ||| b) g ↔ Wi a g ∧ Wi b g := by
  rw [wi_bit, wi_bit, wi_bit]
  constructor
  · intro h
    exact ⟨fun j hj => h j (by rw [Nat.testBit_or, hj]; rfl), fun j hj => h j (by rw [Nat.testBit_or, hj, Bool.or_true])⟩
  · rintro ⟨h1, h2⟩ j hj
    rw [Nat.testBit_or, Bool.or_eq_true] at hj
    rcases hj with hj | hj
    · exact h1 j hj
    · exact h2 j hj
theorem bk_join {r s : List Nat} {g : Nat} : Bk (jn r s) g = Bk r g &&& Bk s g := by
  refine ext_bit fun j => ?_
  rw [Nat.testBit_and, Bool.and_eq_true, Bk_bit, Bk_bit, Bk_bit]
  constructor
  · rintro ⟨c, e1, e2⟩
    obtain ⟨a, b, q1, q2, rfl⟩ := jn_at.mp e1
    have := wi_or.mp e2
    exact ⟨⟨a, q1, this.1⟩, ⟨b, q2, this.2⟩⟩
  · rintro ⟨⟨a, q1, h1⟩, ⟨b, q2, h2⟩⟩
    exact ⟨a ||| b, jn_at.mpr ⟨a, b, q1, q2, rfl⟩, wi_or.mpr ⟨h1, h2⟩⟩
theorem jn_len : ∀ {r s : List Nat}, r.length = s.length → (jn r s).length = r.length
  | [], s, h => by cases s <;> rfl
  | a :: r, [], h => by cases h
  | a :: r, b :: s, h => by
    show (jn r s).length + 1 = r.length + 1
    rw [jn_len (by simpa using h)]
/-- the row of a test -/
def tr (v k : Nat) : List Nat := (List.range v).map fun s => k &&& 2 ^ s
theorem tr_at {v k i a : Nat} : (tr v k)[i]? = some a ↔ i < v ∧ a = k &&& 2 ^ i := by
  unfold tr
  rw [List.getElem?_map, Option.map_eq_some_iff]
  constructor
  · rintro ⟨j, e, rfl⟩
    have hj := (List.getElem?_eq_some_iff.mp e)
    obtain ⟨h1, h2⟩ := hj
    rw [List.getElem_range] at h2
    subst h2
    exact ⟨by simpa using h1, rfl⟩
  · rintro ⟨h, rfl⟩
    exact ⟨i, List.getElem?_range h, rfl⟩
theorem bit_one {k i j : Nat} : (k &&& 2 ^ i).testBit j = true ↔ k.testBit j = true ∧ i = j := by
  rw [Nat.testBit_and, Bool.and_eq_true, Nat.testBit_two_pow, decide_eq_true_eq]
theorem nx_test {v k l : Nat} (h : l < 2 ^ v) : Nx (tr v k) l = l &&& k := by
  refine ext_bit fun j => ?_
  rw [Nx_bit, Nat.testBit_and, Bool.and_eq_true]
  constructor
  · rintro ⟨i, a, e1, e2, e3⟩
    obtain ⟨_, rfl⟩ := tr_at.mp e1
    obtain ⟨q1, rfl⟩ := bit_one.mp e3
    exact ⟨e2, q1⟩
  · rintro ⟨h1, h2⟩
    exact ⟨j, _, tr_at.mpr ⟨lt_bit h h1, rfl⟩, h1, bit_one.mpr ⟨h2, rfl⟩⟩
theorem bk_test {v k l : Nat} (hl : l < 2 ^ v) (hk : k < 2 ^ v) : Bk (tr v k) l = (2 ^ v - 1 - k) ||| l := by
  refine ext_bit fun j => ?_
  have e : 2 ^ v - 1 - k = 2 ^ v - (k + 1) := by omega
  rw [Bk_bit, Nat.testBit_or, Bool.or_eq_true, e, Nat.testBit_two_pow_sub_succ hk, Bool.and_eq_true, decide_eq_true_eq, Bool.not_eq_true']
  constructor
  · rintro ⟨a, e1, e2⟩
    obtain ⟨h1, rfl⟩ := tr_at.mp e1
    cases q : k.testBit j with
    | false => exact .inl ⟨h1, rfl⟩
    | true => exact .inr (wi_bit.mp e2 j (bit_one.mpr ⟨q, rfl⟩))
  · intro h
    have hj : j < v := by
      rcases h with h | h
      · exact h.1
      · exact lt_bit hl h
    refine ⟨_, tr_at.mpr ⟨hj, rfl⟩, wi_bit.mpr fun i hi => ?_⟩
    obtain ⟨q1, rfl⟩ := bit_one.mp hi
    rcases h with h | h
    · rw [h.2] at q1; cases q1
    · exact h
theorem nx_lt {r : List Nat} {l v : Nat} (h : ∀ a ∈ r, a < 2 ^ v) : Nx r l < 2 ^ v := bit_lt fun j hj => by
  obtain ⟨k, a, e1, _, e3⟩ := Nx_bit.mp hj
  exact lt_bit (h a (List.mem_of_getElem? e1)) e3
theorem bk_lt {r : List Nat} {g : Nat} : Bk r g < 2 ^ r.length := bit_lt fun j hj => by
  obtain ⟨a, e1, _⟩ := Bk_bit.mp hj
  exact (List.getElem?_eq_some_iff.mp e1).1
end LW

set_option maxRecDepth 100000
set_option maxHeartbeats 2000000
namespace LW
open PySem PySem.Spec PyProof.Rows L2 DL
/-! ### families of lots -/
theorem wi_refl (a : Nat) : Wi a a := wi_bit.mpr fun _ h => h
theorem wi_trans {a b c : Nat} (h1 : Wi a b) (h2 : Wi b c) : Wi a c := wi_bit.mpr fun j h => wi_bit.mp h2 j (wi_bit.mp h1 j h)
theorem wi_le {a b : Nat} (h : Wi a b) : a ≤ b := by
  have : a &&& b = a := h
  rw [← this]; exact Nat.and_le_right
theorem wi_anti {a b : Nat} (h1 : Wi a b) (h2 : Wi b a) : a = b := Nat.le_antisymm (wi_le h1) (wi_le h2)
theorem wi_and {a b c : Nat} : Wi a (b &&& c) ↔ Wi a b ∧ Wi a c := by
  rw [wi_bit, wi_bit, wi_bit]
  constructor
  · intro h
    exact ⟨fun j hj => by have := h j hj; rw [Nat.testBit_and, Bool.and_eq_true] at this; exact this.1, fun j hj => by have := h j hj; rw [Nat.testBit_and, Bool.and_eq_true] at this; exact this.2⟩
  · rintro ⟨h1, h2⟩ j hj
    rw [Nat.testBit_and, h1 j hj, h2 j hj]; rfl
theorem and_wi_l (a b : Nat) : Wi (a &&& b) a := wi_bit.mpr fun j h => by rw [Nat.testBit_and, Bool.and_eq_true] at h; exact h.1
theorem and_wi_r (a b : Nat) : Wi (a &&& b) b := wi_bit.mpr fun j h => by rw [Nat.testBit_and, Bool.and_eq_true] at h; exact h.2
theorem wi_or_l (a b : Nat) : Wi a (a ||| b) := wi_bit.mpr fun j h => by rw [Nat.testBit_or, h]; rfl
theorem wi_or_r (a b : Nat) : Wi b (a ||| b) := wi_bit.mpr fun j h => by rw [Nat.testBit_or, h, Bool.or_true]
theorem wi_top {a v : Nat} (h : a < 2 ^ v) : Wi a (2 ^ v - 1) := wi_bit.mpr fun j hj => by
  rw [Nat.testBit_two_pow_sub_one]; exact decide_eq_true (lt_bit h hj)
theorem top_lt (v : Nat) : 2 ^ v - 1 < 2 ^ v := Nat.sub_lt (Nat.pow_pos (by decide)) (by decide)
theorem and_lt {a b v : Nat} (h : a < 2 ^ v) : a &&& b < 2 ^ v := Nat.lt_of_le_of_lt Nat.and_le_left h
theorem or_lt {a b v : Nat} (h1 : a < 2 ^ v) (h2 : b < 2 ^ v) : a ||| b < 2 ^ v := Nat.or_lt_two_pow h1 h2
structure Fam (v : Nat) (ms : List Nat) : Prop where
  asc : ms.Pairwise (· < ·)
  lt : ∀ m ∈ ms, m < 2 ^ v
  top : 2 ^ v - 1 ∈ ms
  meet : ∀ a ∈ ms, ∀ b ∈ ms, a &&& b ∈ ms
/-- the law's way to round: from acc on -/
def rdF (l : Nat) : List Nat → Nat → Nat
  | [], acc => acc
  | m :: r, acc => rdF l r (if l &&& m = l then acc &&& m else acc)
theorem rdF_spec (l : Nat) : ∀ (ms : List Nat) (acc : Nat), Wi (rdF l ms acc) acc ∧ (Wi l acc → Wi l (rdF l ms acc)) ∧ ∀ m ∈ ms, Wi l m → Wi (rdF l ms acc) m
  | [], acc => ⟨wi_refl _, fun h => h, fun m hm => by cases hm⟩
  | m :: r, acc => by
    obtain ⟨h1, h2, h3⟩ := rdF_spec l r (if l &&& m = l then acc &&& m else acc)
    by_cases q : l &&& m = l
    · have e : rdF l (m :: r) acc = rdF l r (acc &&& m) := by rw [rdF, if_pos q]
      rw [if_pos q] at h1 h2 h3
      rw [e]
      refine ⟨wi_trans h1 (and_wi_l _ _), fun h => h2 (wi_and.mpr ⟨h, q⟩), fun k hk w => ?_⟩
      rcases List.mem_cons.mp hk with rfl | hk
      · exact wi_trans h1 (and_wi_r _ _)
      · exact h3 k hk w
    · have e : rdF l (m :: r) acc = rdF l r acc := by rw [rdF, if_neg q]
      rw [if_neg q] at h1 h2 h3
      rw [e]
      refine ⟨h1, h2, fun k hk w => ?_⟩
      rcases List.mem_cons.mp hk with rfl | hk
      · exact absurd w q
      · exact h3 k hk w
theorem rdF_mem {v : Nat} {all : List Nat} (F : Fam v all) (l : Nat) : ∀ (ms : List Nat) (acc : Nat), (∀ m ∈ ms, m ∈ all) → acc ∈ all → rdF l ms acc ∈ all
  | [], acc, _, h => h
  | m :: r, acc, hs, h => by
    rw [rdF]
    refine rdF_mem F l r _ (fun k hk => hs k (List.mem_cons_of_mem _ hk)) ?_
    split
    · exact F.meet _ h _ (hs m List.mem_cons_self)
    · exact h
def Rd (v : Nat) (ms : List Nat) (l : Nat) : Nat := rdF l ms (2 ^ v - 1)
section
variable {v : Nat} {ms : List Nat} (F : Fam v ms)
include F
theorem Rd_mem (l : Nat) : Rd v ms l ∈ ms := rdF_mem F l ms _ (fun _ h => h) F.top
theorem Rd_lt (l : Nat) : Rd v ms l < 2 ^ v := F.lt _ (Rd_mem F l)
omit F in
theorem Rd_up {l : Nat} (h : l < 2 ^ v) : Wi l (Rd v ms l) := (rdF_spec l ms _).2.1 (wi_top h)
omit F in
theorem Rd_least {l m : Nat} (hm : m ∈ ms) (h : Wi l m) : Wi (Rd v ms l) m := (rdF_spec l ms _).2.2 m hm h
theorem Rd_uniq {l x : Nat} (hl : l < 2 ^ v) (hx : x ∈ ms) (h1 : Wi l x) (h2 : ∀ m ∈ ms, Wi l m → Wi x m) : x = Rd v ms l :=
  wi_anti (h2 _ (Rd_mem F l) (Rd_up hl)) (Rd_least hx h1)
theorem Rd_mono {a b : Nat} (hb : b < 2 ^ v) (h : Wi a b) : Wi (Rd v ms a) (Rd v ms b) := Rd_least (Rd_mem F b) (wi_trans h (Rd_up hb))
theorem Rd_id {m : Nat} (hm : m ∈ ms) : Rd v ms m = m := wi_anti (Rd_least hm (wi_refl m)) (Rd_up (F.lt m hm))
theorem Rd_rd (l : Nat) : Rd v ms (Rd v ms l) = Rd v ms l := Rd_id F (Rd_mem F l)
end
theorem minO_of : ∀ {l : List Int} {m : Int}, m ∈ l → (∀ y ∈ l, m ≤ y) → minO l = some m
  | [], m, h, _ => by cases h
  | x :: r, m, h, hm => by
    cases q : minO (x :: r) with
    | none => unfold minO at q; cases q' : minO r <;> rw [q'] at q <;> cases q
    | some k =>
      obtain ⟨h1, h2⟩ := minO_mem q
      have a := hm k h1
      have b := h2 m h
      have : k = m := by omega
      rw [this]
theorem minO_rd {v : Nat} {ms : List Nat} (F : Fam v ms) {l : Nat} (hl : l < 2 ^ v) : minO ((ms.filter fun m => decide (l &&& m = l)).map fun m => ((m : Nat) : Int)) = some ((Rd v ms l : Nat) : Int) := by
  refine minO_of (List.mem_map.mpr ⟨_, List.mem_filter.mpr ⟨Rd_mem F l, decide_eq_true (Rd_up hl)⟩, rfl⟩) fun y hy => ?_
  obtain ⟨m, hm, rfl⟩ := List.mem_map.mp hy
  obtain ⟨h1, h2⟩ := List.mem_filter.mp hm
  have := wi_le (Rd_least (v := v) h1 (show l &&& m = l from of_decide_eq_true h2))
  omega
/-! ### sharp steps -/
theorem nx_mono {r : List Nat} {a b : Nat} (h : Wi a b) : Wi (Nx r a) (Nx r b) := wi_bit.mpr fun j hj => by
  obtain ⟨k, x, e1, e2, e3⟩ := Nx_bit.mp hj
  exact Nx_bit.mpr ⟨k, x, e1, wi_bit.mp h k e2, e3⟩
section
variable {v : Nat} {ms : List Nat} (F : Fam v ms) {r : List Nat} (hr : r.length = v) (hl : ∀ a ∈ r, a < 2 ^ v)
include F hr hl
theorem sharp_wi {l : Nat} (h : l < 2 ^ v) : Rd v ms (Nx r l) = Rd v ms (Nx r (Rd v ms l)) ↔ Wi (Rd v ms l) (Bk r (Rd v ms (Nx r l))) := by
  have n1 : Nx r (Rd v ms l) < 2 ^ v := nx_lt hl
  rw [← adj (by rw [hr]; exact Rd_lt F l)]
  constructor
  · intro e
    rw [e]
    exact Rd_up n1
  · intro w
    exact wi_anti (Rd_mono F n1 (nx_mono (Rd_up h))) (Rd_least (Rd_mem F _) w)
/-- the members above whose back lots part a lot from its rounding -/
theorem apart_iff {l m : Nat} (h : l < 2 ^ v) (hm : m ∈ ms) : Wi l (Bk r m) ↔ Wi (Rd v ms (Nx r l)) m := by
  rw [← adj (by rw [hr]; exact h)]
  exact ⟨fun w => Rd_least hm w, fun w => wi_trans (Rd_up (nx_lt hl)) w⟩
theorem sharp_up {l w : Nat} (h1 : Wi l w) (h2 : Wi w (Rd v ms l)) (hs : Rd v ms (Nx r l) = Rd v ms (Nx r (Rd v ms l))) : Rd v ms (Nx r w) = Rd v ms (Nx r (Rd v ms w)) := by
  have lw : w < 2 ^ v := Nat.lt_of_le_of_lt (wi_le h2) (Rd_lt F l)
  have e : Rd v ms w = Rd v ms l := wi_anti (Rd_least (Rd_mem F l) h2) (Rd_mono F lw h1)
  have a := Rd_mono F (nx_lt (r := r) (l := w) hl) (nx_mono (r := r) h1)
  have b := Rd_mono F (nx_lt (r := r) (l := Rd v ms l) hl) (nx_mono (r := r) h2)
  rw [e, ← hs]
  exact wi_anti (by rw [hs]; exact b) a
end
end LW

set_option maxRecDepth 100000
set_option maxHeartbeats 2000000
namespace LW
open PySem PySem.Spec PyProof.Rows L2 DL
/-! ### rows of whole numbers as values -/
def rowD (r : List Nat) : List D := r.map fun n => D.int ((n : Nat) : Int)
theorem row_len (r : List Nat) : (rowD r).length = r.length := List.length_map _
/-- a row of v lots -/
def Good (v : Nat) (r : List Nat) : Prop := r.length = v ∧ ∀ a ∈ r, a < 2 ^ v
theorem toPyL_nats : ∀ r : List Nat, toPyL (rowD r) = some (r.map fun n => PyData.int ((n : Nat) : Int))
  | [] => by simp [rowD, toPyL]
  | a :: r => by
    have ih := toPyL_nats r
    show toPyL (.int (a : Int) :: rowD r) = _
    simp [toPyL, toPy, ih]
theorem lay_nats : ∀ r : List Nat, PyData.canLayAll0 (r.map fun n => PyData.int ((n : Nat) : Int)) = true ∧ PyData.depthAll (r.map fun n => PyData.int ((n : Nat) : Int)) ≤ 1
  | [] => by simp [PyData.canLayAll0, PyData.depthAll]
  | a :: r => by
    have ih := lay_nats r
    simp only [List.map_cons, PyData.canLayAll0, PyData.canLay0, PyData.depthAll, PyData.depth, ih.1, Bool.and_self, true_and]
    omega
theorem shaped_nats (r : List Nat) : SeqAt.shaped (.list (r.map fun n => PyData.int ((n : Nat) : Int))) = true ∧ SeqAt.shaped (.tuple (r.map fun n => PyData.int ((n : Nat) : Int))) = true := by
  obtain ⟨h1, h2⟩ := lay_nats r
  unfold SeqAt.shaped
  simp only [PyData.canLay0, PyData.depth, h1, Bool.true_and]
  exact ⟨decide_eq_true (by omega), decide_eq_true (by omega)⟩
theorem eqv_nats : ∀ a b : List Nat, PyData.eqvAll (a.map fun n => PyData.int ((n : Nat) : Int)) (b.map fun n => PyData.int ((n : Nat) : Int)) = decide (a = b)
  | [], [] => by simp [PyData.eqvAll]
  | [], _ :: _ => by simp [PyData.eqvAll]
  | _ :: _, [] => by simp [PyData.eqvAll]
  | x :: a, y :: b => by
    simp only [List.map_cons, PyData.eqvAll, PyData.eqv]
    rw [eqv_nats a b]
    rw [Bool.eq_iff_iff]
    simp
    intro _
    constructor <;> intro h <;> omega
theorem gEq_lst (neg : Bool) (a b : List Nat) : gEq neg (.lst (rowD a)) (.lst (rowD b)) = some (.bl (if neg then !decide (a = b) else decide (a = b))) := by
  unfold gEq
  simp only [toPy, toPyL_nats, Option.map_some, (shaped_nats _).1, and_self, if_true, PyData.eqv, eqv_nats]
theorem gEq_tup (neg : Bool) (a b : List Nat) : gEq neg (.tup (rowD a)) (.tup (rowD b)) = some (.bl (if neg then !decide (a = b) else decide (a = b))) := by
  unfold gEq
  simp only [toPy, toPyL_nats, Option.map_some, (shaped_nats _).2, and_self, if_true, PyData.eqv, eqv_nats]
theorem any_nats (k : Nat) (r : List Nat) : ((r.map fun n => PyData.int ((n : Nat) : Int)).any fun z => PyData.eqv z (.int (k : Int))) = decide (k ∈ r) := by
  rw [Bool.eq_iff_iff, List.any_eq_true]
  simp only [List.mem_map, decide_eq_true_eq]
  constructor
  · rintro ⟨z, ⟨n, hn, rfl⟩, e⟩
    simp only [PyData.eqv, beq_iff_eq] at e
    have : n = k := by omega
    exact this ▸ hn
  · intro h
    exact ⟨_, ⟨k, h, rfl⟩, by simp [PyData.eqv]⟩
theorem gIn_lst (neg : Bool) (k : Nat) (r : List Nat) : gIn neg (.int (k : Int)) (.lst (rowD r)) = some (.bl (if neg then !decide (k ∈ r) else decide (k ∈ r))) := by
  have s1 : SeqAt.shaped (.int (k : Int)) = true := by unfold SeqAt.shaped; simp [PyData.canLay0, PyData.depth]
  unfold gIn
  simp only [toPy, toPyL_nats, Option.map_some, inPy, (shaped_nats _).1, s1, and_self, if_true, any_nats]
theorem gIn_tup (neg : Bool) (k : Nat) (r : List Nat) : gIn neg (.int (k : Int)) (.tup (rowD r)) = some (.bl (if neg then !decide (k ∈ r) else decide (k ∈ r))) := by
  have s1 : SeqAt.shaped (.int (k : Int)) = true := by unfold SeqAt.shaped; simp [PyData.canLay0, PyData.depth]
  unfold gIn
  simp only [toPy, toPyL_nats, Option.map_some, inPy, (shaped_nats _).2, s1, and_self, if_true, any_nats]
theorem intsD_nats (r : List Nat) : intsD (rowD r) = some (r.map fun n => ((n : Nat) : Int)) := by
  have := intsD_map (r.map fun n => ((n : Nat) : Int))
  rwa [List.map_map] at this
/-! ### sorted -/
def insN (x : Nat) : List Nat → List Nat
  | [] => [x]
  | y :: r => if x ≤ y then x :: y :: r else y :: insN x r
def sortN : List Nat → List Nat
  | [] => []
  | x :: r => insN x (sortN r)
theorem insI_nat (x : Nat) : ∀ r : List Nat, insI (x : Int) (r.map fun n => ((n : Nat) : Int)) = (insN x r).map fun n => ((n : Nat) : Int)
  | [] => rfl
  | y :: r => by
    have ih := insI_nat x r
    simp only [List.map_cons, insI, insN]
    by_cases h : x ≤ y
    · rw [if_pos (by omega), if_pos h]; rfl
    · rw [if_neg (by omega), if_neg h, ih]; rfl
theorem sortI_nat : ∀ r : List Nat, sortI (r.map fun n => ((n : Nat) : Int)) = (sortN r).map fun n => ((n : Nat) : Int)
  | [] => rfl
  | y :: r => by
    have ih := sortI_nat r
    simp only [List.map_cons, sortI, sortN]
    rw [ih, insI_nat]
theorem insN_perm (x : Nat) : ∀ l, (insN x l).Perm (x :: l)
  | [] => .refl _
  | y :: r => by
    unfold insN
    split
    · exact .refl _
    · exact ((insN_perm x r).cons y).trans (.swap x y r)
theorem sortN_perm : ∀ l, (sortN l).Perm l
  | [] => .refl _
  | x :: r => (insN_perm x _).trans ((sortN_perm r).cons x)
theorem insN_sorted (x : Nat) : ∀ l, l.Pairwise (· ≤ ·) → (insN x l).Pairwise (· ≤ ·)
  | [], _ => by simp [insN]
  | y :: r, h => by
    have h' := List.pairwise_cons.mp h
    unfold insN
    split
    · rename_i hx
      exact .cons (fun z hz => by
        rcases List.mem_cons.mp hz with rfl | hz
        · exact hx
        · exact Nat.le_trans hx (h'.1 z hz)) h
    · rename_i hx
      refine .cons (fun z hz => ?_) (insN_sorted x r h'.2)
      rcases List.mem_cons.mp ((insN_perm x r).mem_iff.mp hz) with rfl | hz
      · omega
      · exact h'.1 z hz
theorem sortN_sorted : ∀ l, (sortN l).Pairwise (· ≤ ·)
  | [] => .nil
  | x :: r => insN_sorted x _ (sortN_sorted r)
theorem asc_of {l : List Nat} (h : l.Pairwise (· ≤ ·)) (nd : l.Nodup) : l.Pairwise (· < ·) := by
  induction l with
  | nil => exact .nil
  | cons x r ih =>
    have h' := List.pairwise_cons.mp h
    have nd' := List.nodup_cons.mp nd
    exact .cons (fun y hy => Nat.lt_of_le_of_ne (h'.1 y hy) fun e => nd'.1 (e ▸ hy)) (ih h'.2 nd'.2)
theorem sortN_asc {l : List Nat} (nd : l.Nodup) : (sortN l).Pairwise (· < ·) := asc_of (sortN_sorted l) ((sortN_perm l).nodup_iff.mpr nd)
theorem asc_len : ∀ (l : List Nat) (lo n : Nat), l.Pairwise (· < ·) → (∀ x ∈ l, lo ≤ x ∧ x < n) → l.length ≤ n - lo
  | [], _, _, _, _ => Nat.zero_le _
  | x :: r, lo, n, h, hb => by
    have h' := List.pairwise_cons.mp h
    have hx := hb x List.mem_cons_self
    have ih := asc_len r (x + 1) n h'.2 fun y hy => ⟨h'.1 y hy, (hb y (List.mem_cons_of_mem _ hy)).2⟩
    simp only [List.length_cons]
    omega
theorem nodup_len {l : List Nat} {n : Nat} (nd : l.Nodup) (hb : ∀ x ∈ l, x < n) : l.length ≤ n := by
  have := asc_len (sortN l) 0 n (sortN_asc nd) fun x hx => ⟨Nat.zero_le _, hb x ((sortN_perm l).mem_iff.mp hx)⟩
  rw [(sortN_perm l).length_eq] at this
  omega
/-! ### all common parts -/
def meetIn (l : Nat) : List Nat → List Nat → List Nat
  | [], acc => acc
  | k :: r, acc => meetIn l r (if (k &&& l) ∈ acc then acc else acc ++ [k &&& l])
def metAll : List Nat → List Nat → List Nat
  | [], acc => acc
  | l :: r, acc => metAll r (meetIn l acc acc)
theorem meetIn_nodup (l : Nat) : ∀ (s acc : List Nat), acc.Nodup → (meetIn l s acc).Nodup
  | [], acc, h => h
  | k :: r, acc, h => by
    rw [meetIn]
    refine meetIn_nodup l r _ ?_
    split
    · exact h
    · rename_i hn
      exact List.nodup_append.mpr ⟨h, List.nodup_cons.mpr ⟨by simp, .nil⟩, fun a ha b hb e => hn (by
        have : b = k &&& l := by simpa using hb
        rw [← this, ← e]; exact ha)⟩
theorem meetIn_mem (l : Nat) : ∀ (s acc : List Nat) (x : Nat), x ∈ meetIn l s acc ↔ x ∈ acc ∨ ∃ k ∈ s, x = k &&& l
  | [], acc, x => by simp [meetIn]
  | k :: r, acc, x => by
    rw [meetIn, meetIn_mem l r _ x]
    have e : (x ∈ if (k &&& l) ∈ acc then acc else acc ++ [k &&& l]) ↔ x ∈ acc ∨ x = k &&& l := by
      split
      · rename_i h
        exact ⟨.inl, fun z => z.elim id fun z => z ▸ h⟩
      · simp
    rw [e]
    constructor
    · rintro ((h | h) | ⟨k', h1, h2⟩)
      · exact .inl h
      · exact .inr ⟨k, List.mem_cons_self, h⟩
      · exact .inr ⟨k', List.mem_cons_of_mem _ h1, h2⟩
    · rintro (h | ⟨k', h1, h2⟩)
      · exact .inl (.inl h)
      · rcases List.mem_cons.mp h1 with rfl | h1
        · exact .inl (.inr h2)
        · exact .inr ⟨k', h1, h2⟩
/-- lots that are unlike, with ALL and their common parts -/
structure Cl (v : Nat) (ks : List Nat) : Prop where
  nd : ks.Nodup
  lt : ∀ k ∈ ks, k < 2 ^ v
  top : 2 ^ v - 1 ∈ ks
  meet : ∀ a ∈ ks, ∀ b ∈ ks, a &&& b ∈ ks
theorem Cl.one (v : Nat) : Cl v [2 ^ v - 1] := by
  refine ⟨List.nodup_cons.mpr ⟨by simp, .nil⟩, fun k hk => ?_, List.mem_cons_self, fun a ha b hb => ?_⟩
  · have : k = 2 ^ v - 1 := by simpa using hk
    rw [this]; exact top_lt v
  · have e1 : a = 2 ^ v - 1 := by simpa using ha
    have e2 : b = 2 ^ v - 1 := by simpa using hb
    rw [e1, e2, Nat.and_self]; exact List.mem_cons_self
theorem Cl.meetIn {v : Nat} {ks : List Nat} (c : Cl v ks) (l : Nat) : Cl v (meetIn l ks ks) := by
  refine ⟨meetIn_nodup l ks ks c.nd, fun k hk => ?_, (meetIn_mem l ks ks _).mpr (.inl c.top), fun a ha b hb => ?_⟩
  · rcases (meetIn_mem l ks ks k).mp hk with h | ⟨j, h, rfl⟩
    · exact c.lt k h
    · exact and_lt (c.lt j h)
  · refine (meetIn_mem l ks ks _).mpr ?_
    rcases (meetIn_mem l ks ks a).mp ha with h | ⟨j, h, rfl⟩ <;> rcases (meetIn_mem l ks ks b).mp hb with h' | ⟨j', h', rfl⟩
    · exact .inl (c.meet a h b h')
    · exact .inr ⟨a &&& j', c.meet a h j' h', by rw [Nat.and_assoc]⟩
    · exact .inr ⟨j &&& b, c.meet j h b h', by rw [Nat.and_assoc, Nat.and_assoc, Nat.and_comm l b]⟩
    · refine .inr ⟨j &&& j', c.meet j h j' h', ?_⟩
      refine ext_bit fun i => ?_
      simp only [Nat.testBit_and, Bool.and_eq_true]
      constructor
      · rintro ⟨⟨h1, h2⟩, h3, h4⟩; exact ⟨⟨h1, h3⟩, h2⟩
      · rintro ⟨⟨h1, h2⟩, h3⟩; exact ⟨⟨h1, h3⟩, h2, h3⟩
theorem Cl.all {v : Nat} : ∀ (ls : List Nat) {ks : List Nat}, Cl v ks → Cl v (metAll ls ks)
  | [], _, c => c
  | l :: r, _, c => Cl.all r (c.meetIn l)
theorem Cl.fam {v : Nat} {ks : List Nat} (c : Cl v ks) : Fam v (sortN ks) := by
  have m : ∀ x, x ∈ sortN ks ↔ x ∈ ks := fun x => (sortN_perm ks).mem_iff
  exact ⟨sortN_asc c.nd, fun k hk => c.lt k ((m k).mp hk), (m _).mpr c.top, fun a ha b hb => (m _).mpr (c.meet a ((m a).mp ha) b ((m b).mp hb))⟩
theorem Cl.len {v : Nat} {ks : List Nat} (c : Cl v ks) : ks.length ≤ 2 ^ v := nodup_len c.nd c.lt
def met (v : Nat) (ls : List Nat) : List Nat := sortN (metAll ls [2 ^ v - 1])
theorem met_fam (v : Nat) (ls : List Nat) : Fam v (met v ls) := (Cl.all ls (Cl.one v)).fam
theorem Fam.len {v : Nat} {ms : List Nat} (F : Fam v ms) : ms.length ≤ 2 ^ v := by
  have := asc_len ms 0 (2 ^ v) F.asc fun x hx => ⟨Nat.zero_le _, F.lt x hx⟩
  omega
theorem Fam.ne {v : Nat} {ms : List Nat} (F : Fam v ms) : ms ≠ [] := fun e => by have := F.top; rw [e] at this; cases this
/-- the last member is ALL -/
theorem Fam.last {v : Nat} {ms : List Nat} (F : Fam v ms) : ms[ms.length - 1]? = some (2 ^ v - 1) := by
  obtain ⟨i, hi, e⟩ := List.mem_iff_getElem.mp F.top
  have hl : ms.length - 1 < ms.length := by omega
  rw [List.getElem?_eq_getElem hl]
  by_cases q : i = ms.length - 1
  · subst q; rw [e]
  · have h1 := List.pairwise_iff_getElem.mp F.asc i (ms.length - 1) hi hl (by omega)
    have h2 := F.lt _ (List.getElem_mem hl)
    rw [e] at h1
    omega
theorem fam_top (v : Nat) : Fam v [2 ^ v - 1] := by
  have := (Cl.one v).fam
  exact this
theorem fam_all (v : Nat) : Fam v (List.range (2 ^ v)) :=
  ⟨List.pairwise_lt_range, fun m h => List.mem_range.mp h, List.mem_range.mpr (top_lt v), fun a ha b hb => List.mem_range.mpr (and_lt (List.mem_range.mp ha))⟩
end LW

set_option maxRecDepth 100000
set_option maxHeartbeats 0
namespace LW
open PySem PySem.Spec PyProof.Rows L2 DL
def top (i : Nat) : Stmt := PySem.Challenge.pw_truealarms_k19_whole_sharp_lots_by_back.main.body.getD i (.Pass ⟨0, 0, 0, 0⟩)
abbrev s_is_sequence : Stmt := top 7
abbrev N_is_sequence : List Str := ["thing"]
theorem sc_is_sequence : FnScope N_is_sequence ["thing"] (defScope s_is_sequence) := ⟨rfl, rfl, rfl, by decide +kernel, rfl, by decide +kernel, by decide +kernel⟩
abbrev s_is_whole : Stmt := top 8
abbrev N_is_whole : List Str := ["thing", "low", "high"]
theorem sc_is_whole : FnScope N_is_whole ["thing", "low", "high"] (defScope s_is_whole) := ⟨rfl, rfl, rfl, by decide +kernel, rfl, by decide +kernel, by decide +kernel⟩
abbrev s_check_stands : Stmt := top 11
abbrev N_check_stands : List Str := ["v"]
theorem sc_check_stands : FnScope N_check_stands ["v"] (defScope s_check_stands) := ⟨rfl, rfl, rfl, by decide +kernel, rfl, by decide +kernel, by decide +kernel⟩
abbrev s_all_stands : Stmt := top 12
abbrev N_all_stands : List Str := ["v"]
theorem sc_all_stands : FnScope N_all_stands ["v"] (defScope s_all_stands) := ⟨rfl, rfl, rfl, by decide +kernel, rfl, by decide +kernel, by decide +kernel⟩
abbrev s_check_lot : Stmt := top 13
abbrev N_check_lot : List Str := ["v", "lot"]
theorem sc_check_lot : FnScope N_check_lot ["v", "lot"] (defScope s_check_lot) := ⟨rfl, rfl, rfl, by decide +kernel, rfl, by decide +kernel, by decide +kernel⟩
abbrev s_check_row : Stmt := top 15
abbrev N_check_row : List Str := ["stands", "row", "every", "place", "lot"]
theorem sc_check_row : FnScope N_check_row ["stands", "row"] (defScope s_check_row) := ⟨rfl, rfl, rfl, by decide +kernel, rfl, by decide +kernel, by decide +kernel⟩
abbrev s_next_lot : Stmt := top 16
abbrev N_next_lot : List Str := ["row", "lot", "reached", "stand", "following"]
theorem sc_next_lot : FnScope N_next_lot ["row", "lot"] (defScope s_next_lot) := ⟨rfl, rfl, rfl, by decide +kernel, rfl, by decide +kernel, by decide +kernel⟩
abbrev s_back_lot : Stmt := top 17
abbrev N_back_lot : List Str := ["row", "lot", "kept", "stand", "following"]
theorem sc_back_lot : FnScope N_back_lot ["row", "lot"] (defScope s_back_lot) := ⟨rfl, rfl, rfl, by decide +kernel, rfl, by decide +kernel, by decide +kernel⟩
abbrev s_Glasses_rounded : Stmt := (clsBody (top 26)).getD 3 (.Pass ⟨0, 0, 0, 0⟩)
abbrev N_Glasses_rounded : List Str := ["self", "lot", "member"]
theorem sc_Glasses_rounded : FnScope N_Glasses_rounded ["self", "lot"] (defScope s_Glasses_rounded) := ⟨rfl, rfl, rfl, by decide +kernel, rfl, by decide +kernel, by decide +kernel⟩
abbrev s__is_sharp : Stmt := top 19
abbrev N__is_sharp : List Str := ["glasses", "row", "lot", "after"]
theorem sc__is_sharp : FnScope N__is_sharp ["glasses", "row", "lot"] (defScope s__is_sharp) := ⟨rfl, rfl, rfl, by decide +kernel, rfl, by decide +kernel, by decide +kernel⟩
abbrev s_sharp_at : Stmt := top 20
abbrev N_sharp_at : List Str := ["glasses", "row", "lot", "checked"]
theorem sc_sharp_at : FnScope N_sharp_at ["glasses", "row", "lot"] (defScope s_sharp_at) := ⟨rfl, rfl, rfl, by decide +kernel, rfl, by decide +kernel, by decide +kernel⟩
abbrev s_blurring_lot : Stmt := top 21
abbrev N_blurring_lot : List Str := ["glasses", "row", "lot", "checked", "after"]
theorem sc_blurring_lot : FnScope N_blurring_lot ["glasses", "row", "lot"] (defScope s_blurring_lot) := ⟨rfl, rfl, rfl, by decide +kernel, rfl, by decide +kernel, by decide +kernel⟩
abbrev s__check_ascending : Stmt := top 23
abbrev N__check_ascending : List Str := ["every", "members", "before", "place", "member"]
theorem sc__check_ascending : FnScope N__check_ascending ["every", "members"] (defScope s__check_ascending) := ⟨rfl, rfl, rfl, by decide +kernel, rfl, by decide +kernel, by decide +kernel⟩
abbrev s__check_meets : Stmt := top 24
abbrev N__check_meets : List Str := ["members", "known", "place", "member", "further"]
theorem sc__check_meets : FnScope N__check_meets ["members"] (defScope s__check_meets) := ⟨rfl, rfl, rfl, by decide +kernel, rfl, by decide +kernel, by decide +kernel⟩
abbrev s__checked_members : Stmt := top 25
abbrev N__checked_members : List Str := ["stands", "members", "every"]
theorem sc__checked_members : FnScope N__checked_members ["stands", "members"] (defScope s__checked_members) := ⟨rfl, rfl, rfl, by decide +kernel, rfl, by decide +kernel, by decide +kernel⟩
abbrev s_Glasses_init : Stmt := (clsBody (top 26)).getD 0 (.Pass ⟨0, 0, 0, 0⟩)
abbrev N_Glasses_init : List Str := ["self", "stands", "members", "checked"]
theorem sc_Glasses_init : FnScope N_Glasses_init ["self", "stands", "members"] (defScope s_Glasses_init) := ⟨rfl, rfl, rfl, by decide +kernel, rfl, by decide +kernel, by decide +kernel⟩
abbrev s__law_hand : Stmt := top 28
abbrev N__law_hand : List Str := ["_law_script", "_law_total", "_law_cells", "_law_cell"]
theorem sc__law_hand : FnScope N__law_hand ["_law_script"] (defScope s__law_hand) := ⟨rfl, rfl, rfl, by decide +kernel, rfl, by decide +kernel, by decide +kernel⟩
abbrev s__law_mixed : Stmt := top 29
abbrev N__law_mixed : List Str := ["_law_number", "_law_turn", "_law_once", "_law_twice"]
theorem sc__law_mixed : FnScope N__law_mixed ["_law_number", "_law_turn"] (defScope s__law_mixed) := ⟨rfl, rfl, rfl, by decide +kernel, rfl, by decide +kernel, by decide +kernel⟩
abbrev s__law_take : Stmt := top 30
abbrev N__law_take : List Str := ["_law_hand_here", "_law_many", "_law_cell", "_law_rest"]
theorem sc__law_take : FnScope N__law_take ["_law_hand_here", "_law_many"] (defScope s__law_take) := ⟨rfl, rfl, rfl, by decide +kernel, rfl, by decide +kernel, by decide +kernel⟩
abbrev s__law_stands : Stmt := top 31
abbrev N__law_stands : List Str := ["_law_hand_here"]
theorem sc__law_stands : FnScope N__law_stands ["_law_hand_here"] (defScope s__law_stands) := ⟨rfl, rfl, rfl, by decide +kernel, rfl, by decide +kernel, by decide +kernel⟩
abbrev s__law_every : Stmt := top 32
abbrev N__law_every : List Str := ["_law_v"]
theorem sc__law_every : FnScope N__law_every ["_law_v"] (defScope s__law_every) := ⟨rfl, rfl, rfl, by decide +kernel, rfl, by decide +kernel, by decide +kernel⟩
abbrev s__law_within : Stmt := top 33
abbrev N__law_within : List Str := ["_law_one", "_law_other"]
theorem sc__law_within : FnScope N__law_within ["_law_one", "_law_other"] (defScope s__law_within) := ⟨rfl, rfl, rfl, by decide +kernel, rfl, by decide +kernel, by decide +kernel⟩
abbrev s__law_met : Stmt := top 34
abbrev N__law_met : List Str := ["_law_v", "_law_lots", "_law_found", "_law_lot", "_law_one"]
theorem sc__law_met : FnScope N__law_met ["_law_v", "_law_lots"] (defScope s__law_met) := ⟨rfl, rfl, rfl, by decide +kernel, rfl, by decide +kernel, by decide +kernel⟩
abbrev s__law_members : Stmt := top 35
abbrev N__law_members : List Str := ["_law_hand_here", "_law_v", "_law_way", "_law_lots", "_law_k"]
theorem sc__law_members : FnScope N__law_members ["_law_hand_here", "_law_v"] (defScope s__law_members) := ⟨rfl, rfl, rfl, by decide +kernel, rfl, by decide +kernel, by decide +kernel⟩
abbrev s__law_rounded : Stmt := top 36
abbrev N__law_rounded : List Str := ["_law_members_here", "_law_lot", "_law_found", "_law_member"]
theorem sc__law_rounded : FnScope N__law_rounded ["_law_members_here", "_law_lot"] (defScope s__law_rounded) := ⟨rfl, rfl, rfl, by decide +kernel, rfl, by decide +kernel, by decide +kernel⟩
abbrev s__law_single : Stmt := top 37
abbrev N__law_single : List Str := ["_law_hand_here", "_law_v", "_law_s"]
theorem sc__law_single : FnScope N__law_single ["_law_hand_here", "_law_v"] (defScope s__law_single) := ⟨rfl, rfl, rfl, by decide +kernel, rfl, by decide +kernel, by decide +kernel⟩
abbrev s__law_drawn_row : Stmt := top 38
abbrev N__law_drawn_row : List Str := ["_law_hand_here", "_law_v", "_law_way", "_law_kept", "_law_one", "_law_s"]
theorem sc__law_drawn_row : FnScope N__law_drawn_row ["_law_hand_here", "_law_v"] (defScope s__law_drawn_row) := ⟨rfl, rfl, rfl, by decide +kernel, rfl, by decide +kernel, by decide +kernel⟩
abbrev s__law_next : Stmt := top 39
abbrev N__law_next : List Str := ["_law_row", "_law_lot", "_law_found", "_law_s"]
theorem sc__law_next : FnScope N__law_next ["_law_row", "_law_lot"] (defScope s__law_next) := ⟨rfl, rfl, rfl, by decide +kernel, rfl, by decide +kernel, by decide +kernel⟩
abbrev s__law_back : Stmt := top 40
abbrev N__law_back : List Str := ["_law_row", "_law_lot", "_law_found", "_law_s"]
theorem sc__law_back : FnScope N__law_back ["_law_row", "_law_lot"] (defScope s__law_back) := ⟨rfl, rfl, rfl, by decide +kernel, rfl, by decide +kernel, by decide +kernel⟩
abbrev s__law_list : Stmt := top 41
abbrev N__law_list : List Str := ["_law_hand_here", "_law_items"]
theorem sc__law_list : FnScope N__law_list ["_law_hand_here", "_law_items"] (defScope s__law_list) := ⟨rfl, rfl, rfl, by decide +kernel, rfl, by decide +kernel, by decide +kernel⟩
abbrev s__law_int : Stmt := top 42
abbrev N__law_int : List Str := ["_law_thing"]
theorem sc__law_int : FnScope N__law_int ["_law_thing"] (defScope s__law_int) := ⟨rfl, rfl, rfl, by decide +kernel, rfl, by decide +kernel, by decide +kernel⟩
abbrev s__law_exact : Stmt := top 43
abbrev N__law_exact : List Str := ["_law_told", "_law_due", "_law_k"]
theorem sc__law_exact : FnScope N__law_exact ["_law_told", "_law_due"] (defScope s__law_exact) := ⟨rfl, rfl, rfl, by decide +kernel, rfl, by decide +kernel, by decide +kernel⟩
abbrev s__law_rounds : Stmt := top 44
abbrev N__law_rounds : List Str := ["_law_members_here", "_law_v", "_law_lot"]
theorem sc__law_rounds : FnScope N__law_rounds ["_law_members_here", "_law_v"] (defScope s__law_rounds) := ⟨rfl, rfl, rfl, by decide +kernel, rfl, by decide +kernel, by decide +kernel⟩
abbrev s__law_alike : Stmt := top 45
abbrev N__law_alike : List Str := ["_law_rounds_here", "_law_row", "_law_lot"]
theorem sc__law_alike : FnScope N__law_alike ["_law_rounds_here", "_law_row", "_law_lot"] (defScope s__law_alike) := ⟨rfl, rfl, rfl, by decide +kernel, rfl, by decide +kernel, by decide +kernel⟩
abbrev s__law_refined : Stmt := top 46
abbrev N__law_refined : List Str := ["_law_v", "_law_members_here", "_law_rows", "_law_step", "_law_lots", "_law_row", "_law_grown", "_law_member"]
theorem sc__law_refined : FnScope N__law_refined ["_law_v", "_law_members_here", "_law_rows"] (defScope s__law_refined) := ⟨rfl, rfl, rfl, by decide +kernel, rfl, by decide +kernel, by decide +kernel⟩
abbrev s__law_rich_members : Stmt := top 47
abbrev N__law_rich_members : List Str := ["_law_hand_here", "_law_v", "_law_k"]
theorem sc__law_rich_members : FnScope N__law_rich_members ["_law_hand_here", "_law_v"] (defScope s__law_rich_members) := ⟨rfl, rfl, rfl, by decide +kernel, rfl, by decide +kernel, by decide +kernel⟩
abbrev s_law : Stmt := top 48
abbrev N_law : List Str := ["_law_script", "_law_hand_here", "_law_v", "_law_members_here", "_law_row", "_law_glasses", "_law_given", "_law_rounds_here", "_law_backs", "_law_told", "_law_lot", "_law_found", "_law_near", "_law_blurring", "_law_apart", "_law_s", "_law_wider", "_law_member", "_law_k"]
theorem sc_law : FnScope N_law ["_law_script"] (defScope s_law) := ⟨rfl, rfl, rfl, by decide +kernel, rfl, by decide +kernel, by decide +kernel⟩
def lc_Glasses_rounded_115_19 : Scope := { kind := PySem.ScopeKind.function, names := [ (PySem.Str.ofString ".0", PySem.NameKind.local), (PySem.Str.ofString "member", PySem.NameKind.local), (PySem.Str.ofString "lot", PySem.NameKind.free)], isGenerator := false, isCoroutine := false, more := [] : PySem.Scope }
def lc__law_members_168_16 : Scope := { kind := PySem.ScopeKind.function, names := [ (PySem.Str.ofString ".0", PySem.NameKind.local), (PySem.Str.ofString "_law_k", PySem.NameKind.local), (PySem.Str.ofString "_law_take", PySem.NameKind.globalImplicit), (PySem.Str.ofString "_law_hand_here", PySem.NameKind.free), (PySem.Str.ofString "_law_v", PySem.NameKind.free)], isGenerator := false, isCoroutine := false, more := [] : PySem.Scope }
def lc__law_single_179_11 : Scope := { kind := PySem.ScopeKind.function, names := [ (PySem.Str.ofString ".0", PySem.NameKind.local), (PySem.Str.ofString "_law_s", PySem.NameKind.local), (PySem.Str.ofString "_law_take", PySem.NameKind.globalImplicit), (PySem.Str.ofString "_law_hand_here", PySem.NameKind.free), (PySem.Str.ofString "_law_v", PySem.NameKind.free)], isGenerator := false, isCoroutine := false, more := [] : PySem.Scope }
def lc__law_drawn_row_186_15 : Scope := { kind := PySem.ScopeKind.function, names := [ (PySem.Str.ofString ".0", PySem.NameKind.local), (PySem.Str.ofString "_law_s", PySem.NameKind.local), (PySem.Str.ofString "_law_kept", PySem.NameKind.free)], isGenerator := false, isCoroutine := false, more := [] : PySem.Scope }
def lc__law_drawn_row_189_15 : Scope := { kind := PySem.ScopeKind.function, names := [ (PySem.Str.ofString ".0", PySem.NameKind.local), (PySem.Str.ofString "_law_s", PySem.NameKind.local), (PySem.Str.ofString "_law_take", PySem.NameKind.globalImplicit), (PySem.Str.ofString "_law_hand_here", PySem.NameKind.free), (PySem.Str.ofString "_law_one", PySem.NameKind.free), (PySem.Str.ofString "_law_v", PySem.NameKind.free)], isGenerator := false, isCoroutine := false, more := [] : PySem.Scope }
def lc__law_drawn_row_191_15 : Scope := { kind := PySem.ScopeKind.function, names := [ (PySem.Str.ofString ".0", PySem.NameKind.local), (PySem.Str.ofString "_law_s", PySem.NameKind.local), (PySem.Str.ofString "_law_take", PySem.NameKind.globalImplicit), (PySem.Str.ofString "_law_hand_here", PySem.NameKind.free), (PySem.Str.ofString "_law_v", PySem.NameKind.free)], isGenerator := false, isCoroutine := false, more := [] : PySem.Scope }
def lc__law_drawn_row_192_11 : Scope := { kind := PySem.ScopeKind.function, names := [ (PySem.Str.ofString ".0", PySem.NameKind.local), (PySem.Str.ofString "_law_s", PySem.NameKind.local), (PySem.Str.ofString "_law_take", PySem.NameKind.globalImplicit), (PySem.Str.ofString "_law_hand_here", PySem.NameKind.free), (PySem.Str.ofString "_law_v", PySem.NameKind.free)], isGenerator := false, isCoroutine := false, more := [] : PySem.Scope }
def lc__law_exact_213_15 : Scope := { kind := PySem.ScopeKind.function, names := [ (PySem.Str.ofString ".0", PySem.NameKind.local), (PySem.Str.ofString "_law_k", PySem.NameKind.local), (PySem.Str.ofString "_law_exact", PySem.NameKind.globalImplicit), (PySem.Str.ofString "_law_due", PySem.NameKind.free), (PySem.Str.ofString "_law_told", PySem.NameKind.free)], isGenerator := false, isCoroutine := false, more := [] : PySem.Scope }
def lc__law_rounds_222_11 : Scope := { kind := PySem.ScopeKind.function, names := [ (PySem.Str.ofString ".0", PySem.NameKind.local), (PySem.Str.ofString "_law_lot", PySem.NameKind.local), (PySem.Str.ofString "_law_rounded", PySem.NameKind.globalImplicit), (PySem.Str.ofString "_law_members_here", PySem.NameKind.free)], isGenerator := false, isCoroutine := false, more := [] : PySem.Scope }
def lc__law_refined_229_36 : Scope := { kind := PySem.ScopeKind.function, names := [ (PySem.Str.ofString ".0", PySem.NameKind.local), (PySem.Str.ofString "_law_member", PySem.NameKind.local), (PySem.Str.ofString "_law_back", PySem.NameKind.globalImplicit), (PySem.Str.ofString "_law_row", PySem.NameKind.free)], isGenerator := false, isCoroutine := false, more := [] : PySem.Scope }
def lc__law_rich_members_238_34 : Scope := { kind := PySem.ScopeKind.function, names := [ (PySem.Str.ofString ".0", PySem.NameKind.local), (PySem.Str.ofString "_law_k", PySem.NameKind.local), (PySem.Str.ofString "_law_take", PySem.NameKind.globalImplicit), (PySem.Str.ofString "_law_hand_here", PySem.NameKind.free), (PySem.Str.ofString "_law_v", PySem.NameKind.free)], isGenerator := false, isCoroutine := false, more := [] : PySem.Scope }
def lc_law_249_17 : Scope := { kind := PySem.ScopeKind.function, names := [ (PySem.Str.ofString ".0", PySem.NameKind.local), (PySem.Str.ofString "_law_member", PySem.NameKind.local), (PySem.Str.ofString "_law_back", PySem.NameKind.globalImplicit), (PySem.Str.ofString "_law_row", PySem.NameKind.free)], isGenerator := false, isCoroutine := false, more := [] : PySem.Scope }
def lc_law_262_21 : Scope := { kind := PySem.ScopeKind.function, names := [ (PySem.Str.ofString ".0", PySem.NameKind.local), (PySem.Str.ofString "_law_k", PySem.NameKind.local), (PySem.Str.ofString "_law_within", PySem.NameKind.globalImplicit), (PySem.Str.ofString "_law_backs", PySem.NameKind.free), (PySem.Str.ofString "_law_lot", PySem.NameKind.free), (PySem.Str.ofString "_law_members_here", PySem.NameKind.free), (PySem.Str.ofString "_law_rounds_here", PySem.NameKind.free)], isGenerator := false, isCoroutine := false, more := [] : PySem.Scope }
def tabL : List (Str × Str × Bool) := [("BadStands", "BadStands", true), ("BadStands", "BadLot", false), ("BadLot", "BadStands", false), ("BadLot", "BadLot", true)]
def tabE (a b : Str) : Option Bool := tabOf tabL a b
/-! ### what the defs do -/
def cs_members : List Str := ["Glasses"]
def cs_stands : List Str := ["Glasses"]
def F_is_sequence : DS := (sRet (dIsi ["list", "tuple"] (dVar 0)))
def fn_is_sequence : List D → FO := defF [false] 1 F_is_sequence
def F_is_whole : DS := (sSeq (sIf (tOrD (dTru (dIsi ["bool"] (dVar 0))) (tNotD (dTru (dIsi ["int"] (dVar 0))))) (sRet (dC (.bl false))) sNil) (sSeq (sIf (tAndD (dTest (dBin (gIs true) (dVar 1) (dC .non))) (dTest (dBin (gB fun i j => decide (i < j)) (dVar 0) (dVar 1)))) (sRet (dC (.bl false))) sNil) (sRet (dOr (dBin (gIs false) (dVar 2) (dC .non)) (dBin (gB fun i j => decide (i ≤ j)) (dVar 0) (dVar 2))))))
def fn_is_whole : List D → FO := defF [false, false, false] 3 F_is_whole
def F_check_stands : DS := (sSeq (sIf (tNotD (dTru (dCall [false, false, false] [] fn_is_whole (dCons (dVar 0) (dCons (dC (.int 1)) (dCons (dC (.int 6)) dNil)))))) (fun δ => .ex "BadStands" [] [] δ) sNil) (sRet (dVar 0)))
def fn_check_stands : List D → FO := defF [false] 1 F_check_stands
def F_all_stands : DS := (sRet (dBin (gI (fun _ _ => true) fun i j => i - j) (dBin (gI cPow fun i j => i * 2 ^ j.toNat) (dC (.int 1)) (dCall [false] [] fn_check_stands (dCons (dVar 0) dNil))) (dC (.int 1))))
def fn_all_stands : List D → FO := defF [false] 1 F_all_stands
def F_check_lot : DS := (sSeq (sIf (tNotD (dTru (dCall [false, false, false] [] fn_is_whole (dCons (dVar 1) (dCons (dC (.int 0)) (dCons (dCall [false] [] fn_all_stands (dCons (dVar 0) dNil)) dNil)))))) (fun δ => .ex "BadLot" [] [] δ) sNil) (sRet (dVar 1)))
def fn_check_lot : List D → FO := defF [false, false] 2 F_check_lot
def B_check_row_0 : DS := (sIf (tNotD (dTru (dCall [false, false, false] [] fn_is_whole (dCons (dVar 4) (dCons (dC (.int 0)) (dCons (dVar 2) dNil)))))) (fun _ => .st) sNil)
def F_check_row : DS := (sSeq (sSet 2 (dCall [false] [] fn_all_stands (dCons (dVar 0) dNil))) (sSeq (sIf (tOrD (tNotD (dTru (dCall [false] [] fn_is_sequence (dCons (dVar 1) dNil)))) (dTest (dBin (gEq true) (dLenV 1) (dVar 0)))) (fun _ => .st) sNil) (sSeq (sFor (dEn (dVar 1)) (dUnp [3, 4]) B_check_row_0) (sRet (dCallB gTuple (dCons (dVar 1) dNil))))))
def fn_check_row : List D → FO := defF [false, false] 5 F_check_row
def B_next_lot_0 : DS := (sIf (dTru (dBin (gI (fun _ _ => true) Builtin.bitAnd) (dBin (gI cNon fun i j => i / 2 ^ j.toNat) (dVar 1) (dVar 3)) (dC (.int 1)))) (sAug 2 (gI (fun _ _ => true) Builtin.bitOr) (dVar 4)) sNil)
def F_next_lot : DS := (sSeq (sSet 2 (dC (.int 0))) (sSeq (sFor (dEn (dVar 0)) (dUnp [3, 4]) B_next_lot_0) (sRet (dVar 2))))
def fn_next_lot : List D → FO := defF [false, false] 5 F_next_lot
def B_back_lot_0 : DS := (sIf (dTest (dBin (gEq false) (dBin (gI (fun _ _ => true) Builtin.bitAnd) (dVar 4) (dUn (gU Builtin.bitNot) (dVar 1))) (dC (.int 0)))) (sAug 2 (gI (fun _ _ => true) Builtin.bitOr) (dBin (gI cPow fun i j => i * 2 ^ j.toNat) (dC (.int 1)) (dVar 3))) sNil)
def F_back_lot : DS := (sSeq (sSet 2 (dC (.int 0))) (sSeq (sFor (dEn (dVar 0)) (dUnp [3, 4]) B_back_lot_0) (sRet (dVar 2))))
def fn_back_lot : List D → FO := defF [false, false] 5 F_back_lot
def Q_Glasses_rounded_0 : DT := (dTest (dBin (gEq false) (dBin (gI (fun _ _ => true) Builtin.bitAnd) (dVar 1) (dUn (gU Builtin.bitNot) (dVar 2))) (dC (.int 0))))
def E_Glasses_rounded_0 : DE := (dVar 2)
def F_Glasses_rounded : DS := (sSeq (sExpr (dCall [false, false] [] fn_check_lot (dCons (dFld cs_stands "stands" (dVar 0)) (dCons (dVar 1) dNil)))) (sRet (dCallB gMin (dCons (dComp (dIt (dFld cs_members "members" (dVar 0))) (setV 2) Q_Glasses_rounded_0 E_Glasses_rounded_0 [2]) dNil))))
def fn_Glasses_rounded : List D → FO := defF [false, false] 3 F_Glasses_rounded
def F__is_sharp : DS := (sSeq (sSet 3 (dMeth "Glasses" "rounded" [false, false] [] fn_Glasses_rounded (dVar 0) (dCons (dCall [false, false] [] fn_next_lot (dCons (dVar 1) (dCons (dVar 2) dNil))) dNil))) (sRet (dBin (gEq false) (dVar 3) (dMeth "Glasses" "rounded" [false, false] [] fn_Glasses_rounded (dVar 0) (dCons (dCall [false, false] [] fn_next_lot (dCons (dVar 1) (dCons (dMeth "Glasses" "rounded" [false, false] [] fn_Glasses_rounded (dVar 0) (dCons (dVar 2) dNil)) dNil))) dNil)))))
def fn__is_sharp : List D → FO := defF [false, false, false] 4 F__is_sharp
def F_sharp_at : DS := (sSeq (sSet 3 (dCall [false, false] [] fn_check_row (dCons (dFld cs_stands "stands" (dVar 0)) (dCons (dVar 1) dNil)))) (sSeq (sExpr (dCall [false, false] [] fn_check_lot (dCons (dFld cs_stands "stands" (dVar 0)) (dCons (dVar 2) dNil)))) (sRet (dCall [false, false, false] [] fn__is_sharp (dCons (dVar 0) (dCons (dVar 3) (dCons (dVar 2) dNil)))))))
def fn_sharp_at : List D → FO := defF [false, false, false] 4 F_sharp_at
def F_blurring_lot : DS := (sSeq (sSet 3 (dCall [false, false] [] fn_check_row (dCons (dFld cs_stands "stands" (dVar 0)) (dCons (dVar 1) dNil)))) (sSeq (sExpr (dCall [false, false] [] fn_check_lot (dCons (dFld cs_stands "stands" (dVar 0)) (dCons (dVar 2) dNil)))) (sSeq (sSet 4 (dMeth "Glasses" "rounded" [false, false] [] fn_Glasses_rounded (dVar 0) (dCons (dCall [false, false] [] fn_next_lot (dCons (dVar 3) (dCons (dVar 2) dNil))) dNil))) (sRet (dBin (gI (fun _ _ => true) Builtin.bitAnd) (dMeth "Glasses" "rounded" [false, false] [] fn_Glasses_rounded (dVar 0) (dCons (dVar 2) dNil)) (dUn (gU Builtin.bitNot) (dCall [false, false] [] fn_back_lot (dCons (dVar 3) (dCons (dVar 4) dNil)))))))))
def fn_blurring_lot : List D → FO := defF [false, false, false] 5 F_blurring_lot
def B__check_ascending_0 : DS := (sSeq (sIf (tNotD (dTru (dCall [false, false, false] [] fn_is_whole (dCons (dVar 4) (dCons (dC (.int 0)) (dCons (dVar 0) dNil)))))) (fun _ => .st) sNil) (sSeq (sIf (dTest (dBin (gB fun i j => decide (i ≤ j)) (dVar 4) (dVar 2))) (fun _ => .st) sNil) (sSet 2 (dVar 4))))
def F__check_ascending : DS := (sSeq (sSet 2 (dUn (gU fun i => -i) (dC (.int 1)))) (sFor (dEn (dVar 1)) (dUnp [3, 4]) B__check_ascending_0))
def fn__check_ascending : List D → FO := defF [false, false] 5 F__check_ascending
def B__check_meets_0 : DS := (sIf (dTest (dBin (gInS true) (dBin (gI (fun _ _ => true) Builtin.bitAnd) (dVar 3) (dIxV 0 (dVar 4))) (dVar 1))) (fun _ => .st) sNil)
def B__check_meets_1 : DS := (sFor (dRg2 (dBin gAdd (dVar 2) (dC (.int 1))) (dLenV 0)) (setV 4) B__check_meets_0)
def F__check_meets : DS := (sSeq (sSet 1 (dCallB gSet (dCons (dVar 0) dNil))) (sFor (dEn (dVar 0)) (dUnp [2, 3]) B__check_meets_1))
def fn__check_meets : List D → FO := defF [false] 5 F__check_meets
def F__checked_members : DS := (sSeq (sIf (tNotD (dTru (dCall [false, false, false] [] fn_is_whole (dCons (dVar 0) (dCons (dC (.int 1)) (dCons (dC (.int 6)) dNil)))))) (fun _ => .st) sNil) (sSeq (sIf (tOrD (tNotD (dTru (dCall [false] [] fn_is_sequence (dCons (dVar 1) dNil)))) (dTest (dBin (gEq false) (dLenV 1) (dC (.int 0))))) (fun _ => .st) sNil) (sSeq (sSet 2 (dCall [false] [] fn_all_stands (dCons (dVar 0) dNil))) (sSeq (sExpr (dCall [false, false] [] fn__check_ascending (dCons (dVar 2) (dCons (dVar 1) dNil)))) (sSeq (sIf (dTest (dBin (gEq true) (dIxV 1 (dUn (gU fun i => -i) (dC (.int 1)))) (dVar 2))) (fun _ => .st) sNil) (sSeq (sExpr (dCall [false] [] fn__check_meets (dCons (dVar 1) dNil))) (sRet (dCallB gTuple (dCons (dVar 1) dNil)))))))))
def fn__checked_members : List D → FO := defF [false, false] 3 F__checked_members
def F_Glasses_init : DS := (sSeq (sSet 3 (dCall [false, false] [] fn__checked_members (dCons (dVar 1) (dCons (dVar 2) dNil)))) (sSeq (sPutF cs_stands 0 "stands" (dVar 1)) (sPutF cs_members 0 "members" (dVar 3))))
def fn_Glasses_init : List D → FO := defF [true, false, false] 4 F_Glasses_init
def B__law_hand_0 : DS := (sSeq (sSet 1 (dBin (gI cPos fun i j => i % j) (dCallB gInt1 (dCons (dBin gAdd (dBin (gI cMul fun i j => i * j) (dVar 1) (dC (.int 1721))) (dCallB gInt1 (dCons (dVar 3) dNil))) dNil)) (dC (.int 2147483549)))) (sApp 2 (dCallB gAbs (dCons (dCallB gInt1 (dCons (dVar 3) dNil)) dNil))))
def F__law_hand : DS := (sSeq (sSet 1 (dBin gAdd (dLenV 0) (dC (.int 41)))) (sSeq (sSetO 2 (dLst dNil)) (sSeq (sFor (dIt (dVar 0)) (setV 3) B__law_hand_0) (sRetO (dLst (dCons (dVar 2) (dCons (dC (.int 0)) (dCons (dC (.int 0)) (dCons (dVar 1) dNil)))))))))
def fn__law_hand : List D → FO := defF [false] 4 F__law_hand
def F__law_mixed : DS := (sSeq (sSet 2 (dBin (gI cPos fun i j => i % j) (dCallB gInt1 (dCons (dBin gAdd (dBin gAdd (dBin (gI cMul fun i j => i * j) (dVar 0) (dC (.int 48271))) (dBin (gI cMul fun i j => i * j) (dVar 1) (dC (.int 7919)))) (dC (.int 30011))) dNil)) (dC (.int 2147483399)))) (sSeq (sSet 3 (dBin (gI cPos fun i j => i % j) (dCallB gInt1 (dCons (dBin gAdd (dBin gAdd (dBin (gI cMul fun i j => i * j) (dVar 2) (dVar 2)) (dBin (gI cMul fun i j => i * j) (dVar 1) (dC (.int 92821)))) (dBin (gI cDiv fun i j => i / j) (dVar 2) (dC (.int 131)))) dNil)) (dC (.int 2147483629)))) (sRet (dBin (gI cDiv fun i j => i / j) (dCallB gInt1 (dCons (dBin (gI cPos fun i j => i % j) (dCallB gInt1 (dCons (dBin gAdd (dBin (gI cMul fun i j => i * j) (dVar 3) (dC (.int 69621))) (dBin (gI cDiv fun i j => i / j) (dVar 2) (dC (.int 13)))) dNil)) (dC (.int 2147483587))) dNil)) (dC (.int 32))))))
def fn__law_mixed : List D → FO := defF [false, false] 4 F__law_mixed
def F__law_take : DS := (sSeq (sIf (tAndD (dTest (dBin (gEq false) (dIxV 0 (dC (.int 2))) (dC (.int 0)))) (dTest (dBin (gB fun i j => decide (i < j)) (dIxV 0 (dC (.int 1))) (dCallB gLen (dCons (dIxV 0 (dC (.int 0))) dNil))))) (sSeq (sSet 2 (dBin idxD (dIxV 0 (dC (.int 0))) (dIxV 0 (dC (.int 1))))) (sSeq (sPut 0 (dBin gAdd (dIxV 0 (dC (.int 1))) (dC (.int 1))) (dC (.int 1))) (sSeq (sIf (dTest (dBin (gB fun i j => decide (i < j)) (dVar 2) (dBin (gI cPow fun i j => i ^ j.toNat) (dC (.int 10)) (dC (.int 18))))) (sRet (dBin (gI cPos fun i j => i % j) (dCallB gInt1 (dCons (dCall [false, false] [] fn__law_mixed (dCons (dBin (gI cPos fun i j => i % j) (dCallB gInt1 (dCons (dVar 2) dNil)) (dC (.int 2147483399))) (dCons (dIxV 0 (dC (.int 1))) dNil))) dNil)) (dVar 1))) sNil) (sPut 0 (dVar 2) (dC (.int 2)))))) sNil) (sSeq (sIf (dTest (dBin (gB fun i j => decide (j < i)) (dIxV 0 (dC (.int 2))) (dC (.int 0)))) (sSeq (sSet 3 (dIxV 0 (dC (.int 2)))) (sSeq (sPut 0 (dBin (gI cDiv fun i j => i / j) (dCallB gInt1 (dCons (dVar 3) dNil)) (dVar 1)) (dC (.int 2))) (sRet (dBin (gI cPos fun i j => i % j) (dCallB gInt1 (dCons (dVar 3) dNil)) (dVar 1))))) sNil) (sSeq (sPut 0 (dBin (gI cPos fun i j => i % j) (dCallB gInt1 (dCons (dBin gAdd (dIxV 0 (dC (.int 3))) (dC (.int 1))) dNil)) (dC (.int 2147483549))) (dC (.int 3))) (sRet (dBin (gI cPos fun i j => i % j) (dCallB gInt1 (dCons (dCall [false, false] [] fn__law_mixed (dCons (dIxV 0 (dC (.int 3))) (dCons (dIxV 0 (dC (.int 1))) dNil))) dNil)) (dVar 1))))))
def fn__law_take : List D → FO := defF [true, false] 4 F__law_take
def F__law_stands : DS := (sRet (dBin idxD (dC (.tup [(.int 3), (.int 4), (.int 3), (.int 4), (.int 3), (.int 4), (.int 3), (.int 4), (.int 2), (.int 2), (.int 5), (.int 5), (.int 6), (.int 6), (.int 3), (.int 1)])) (dCall [true, false] [] fn__law_take (dRefA 0 (dCons (dC (.int 16)) dNil)))))
def fn__law_stands : List D → FO := defF [true] 1 F__law_stands
def F__law_every : DS := (sRet (dBin (gI (fun _ _ => true) fun i j => i - j) (dBin (gI cPow fun i j => i * 2 ^ j.toNat) (dC (.int 1)) (dVar 0)) (dC (.int 1))))
def fn__law_every : List D → FO := defF [false] 1 F__law_every
def F__law_within : DS := (sRet (dBin (gEq false) (dBin (gI (fun _ _ => true) Builtin.bitAnd) (dVar 0) (dVar 1)) (dVar 0)))
def fn__law_within : List D → FO := defF [false, false] 2 F__law_within
def B__law_met_0 : DS := (sPutK 2 (dC (.bl true)) (dBin (gI (fun _ _ => true) Builtin.bitAnd) (dVar 4) (dVar 3)))
def B__law_met_1 : DS := (sFor (dIt (dLKV 2)) (setV 4) B__law_met_0)
def F__law_met : DS := (sSeq (sSetO 2 (dDct1 (dCall [false] [] fn__law_every (dCons (dVar 0) dNil)) (dC (.bl true)))) (sSeq (sFor (dIt (dVar 1)) (setV 3) B__law_met_1) (sRet (dCallB gSorted (dCons (dLKV 2) dNil)))))
def fn__law_met : List D → FO := defF [false, false] 5 F__law_met
def E__law_members_0 : DE := (dCall [true, false] [] fn__law_take (dRefA 0 (dCons (dBin (gI cPow fun i j => i * 2 ^ j.toNat) (dC (.int 1)) (dVar 1)) dNil)))
def F__law_members : DS := (sSeq (sSet 2 (dCall [true, false] [] fn__law_take (dRefA 0 (dCons (dC (.int 16)) dNil)))) (sSeq (sIf (dTest (dBin (gEq false) (dVar 2) (dC (.int 0)))) (sRet (dRgL (dBin (gI cPow fun i j => i * 2 ^ j.toNat) (dC (.int 1)) (dVar 1)))) sNil) (sSeq (sIf (dTest (dBin (gEq false) (dVar 2) (dC (.int 1)))) (sRet (dLst (dCons (dCall [false] [] fn__law_every (dCons (dVar 1) dNil)) dNil))) sNil) (sSeq (sSetO 3 (dComp (dRg1 (dBin gAdd (dC (.int 1)) (dCall [true, false] [] fn__law_take (dRefA 0 (dCons (dC (.int 4)) dNil))))) (setV 4) dYes E__law_members_0 [4])) (sSeq (sIf (dTru (dCall [true, false] [] fn__law_take (dRefA 0 (dCons (dC (.int 2)) dNil)))) (sApp 3 (dC (.int 0))) sNil) (sRet (dCall [false, false] [] fn__law_met (dCons (dVar 1) (dCons (dVar 3) dNil)))))))))
def fn__law_members : List D → FO := defF [true, false] 5 F__law_members
def B__law_rounded_0 : DS := (sIf (dTest (dBin (gEq false) (dBin (gI (fun _ _ => true) Builtin.bitAnd) (dVar 1) (dVar 3)) (dVar 1))) (sSet 2 (dBin (gI (fun _ _ => true) Builtin.bitAnd) (dVar 2) (dVar 3))) sNil)
def F__law_rounded : DS := (sSeq (sSet 2 (dIxV 0 (dUn (gU fun i => -i) (dC (.int 1))))) (sSeq (sFor (dIt (dVar 0)) (setV 3) B__law_rounded_0) (sRet (dVar 2))))
def fn__law_rounded : List D → FO := defF [false, false] 4 F__law_rounded
def E__law_single_0 : DE := (dBin (gI cPow fun i j => i * 2 ^ j.toNat) (dC (.int 1)) (dCall [true, false] [] fn__law_take (dRefA 0 (dCons (dVar 1) dNil))))
def F__law_single : DS := (sRet (dComp (dRg1 (dVar 1)) (setV 2) dYes E__law_single_0 [2]))
def fn__law_single : List D → FO := defF [true, false] 3 F__law_single
def E__law_drawn_row_0 : DE := (dBin (gI (fun _ _ => true) Builtin.bitAnd) (dBin (gI cPow fun i j => i * 2 ^ j.toNat) (dC (.int 1)) (dVar 5)) (dVar 3))
def E__law_drawn_row_1 : DE := (dBin (gI cPow fun i j => i * 2 ^ j.toNat) (dC (.int 1)) (dIf (dTest (dBin (gEq true) (dVar 5) (dVar 4))) (dVar 5) (dCall [true, false] [] fn__law_take (dRefA 0 (dCons (dVar 1) dNil)))))
def E__law_drawn_row_2 : DE := (dIf (dTru (dCall [true, false] [] fn__law_take (dRefA 0 (dCons (dC (.int 3)) dNil)))) (dBin (gI cPow fun i j => i * 2 ^ j.toNat) (dC (.int 1)) (dCall [true, false] [] fn__law_take (dRefA 0 (dCons (dVar 1) dNil)))) (dC (.int 0)))
def E__law_drawn_row_3 : DE := (dCall [true, false] [] fn__law_take (dRefA 0 (dCons (dBin (gI cPow fun i j => i * 2 ^ j.toNat) (dC (.int 1)) (dVar 1)) dNil)))
def F__law_drawn_row : DS := (sSeq (sSet 2 (dCall [true, false] [] fn__law_take (dRefA 0 (dCons (dC (.int 8)) dNil)))) (sSeq (sIf (dTest (dBin (gB fun i j => decide (i < j)) (dVar 2) (dC (.int 3)))) (sRet (dCall [true, false] [] fn__law_single (dRefA 0 (dCons (dVar 1) dNil)))) sNil) (sSeq (sIf (dTest (dBin (gEq false) (dVar 2) (dC (.int 3)))) (sSeq (sSet 3 (dCall [true, false] [] fn__law_take (dRefA 0 (dCons (dBin (gI cPow fun i j => i * 2 ^ j.toNat) (dC (.int 1)) (dVar 1)) dNil)))) (sRet (dComp (dRg1 (dVar 1)) (setV 5) dYes E__law_drawn_row_0 [5]))) sNil) (sSeq (sIf (dTest (dBin (gEq false) (dVar 2) (dC (.int 4)))) (sSeq (sSet 4 (dCall [true, false] [] fn__law_take (dRefA 0 (dCons (dVar 1) dNil)))) (sRet (dComp (dRg1 (dVar 1)) (setV 5) dYes E__law_drawn_row_1 [5]))) sNil) (sSeq (sIf (dTest (dBin (gEq false) (dVar 2) (dC (.int 5)))) (sRet (dComp (dRg1 (dVar 1)) (setV 5) dYes E__law_drawn_row_2 [5])) sNil) (sRet (dComp (dRg1 (dVar 1)) (setV 5) dYes E__law_drawn_row_3 [5])))))))
def fn__law_drawn_row : List D → FO := defF [true, false] 6 F__law_drawn_row
def B__law_next_0 : DS := (sIf (dTest (dBin (gEq false) (dBin (gI cPos fun i j => i % j) (dCallB gInt1 (dCons (dBin (gI cNon fun i j => i / 2 ^ j.toNat) (dVar 1) (dVar 3)) dNil)) (dC (.int 2))) (dC (.int 1)))) (sSet 2 (dBin (gI (fun _ _ => true) Builtin.bitOr) (dVar 2) (dIxV 0 (dVar 3)))) sNil)
def F__law_next : DS := (sSeq (sSet 2 (dC (.int 0))) (sSeq (sFor (dRg1 (dLenV 0)) (setV 3) B__law_next_0) (sRet (dVar 2))))
def fn__law_next : List D → FO := defF [false, false] 4 F__law_next
def B__law_back_0 : DS := (sIf (dTest (dBin (gEq false) (dBin (gI (fun _ _ => true) Builtin.bitAnd) (dIxV 0 (dVar 3)) (dVar 1)) (dIxV 0 (dVar 3)))) (sSet 2 (dBin (gI (fun _ _ => true) Builtin.bitOr) (dVar 2) (dBin (gI cPow fun i j => i * 2 ^ j.toNat) (dC (.int 1)) (dVar 3)))) sNil)
def F__law_back : DS := (sSeq (sSet 2 (dC (.int 0))) (sSeq (sFor (dRg1 (dLenV 0)) (setV 3) B__law_back_0) (sRet (dVar 2))))
def fn__law_back : List D → FO := defF [false, false] 4 F__law_back
def F__law_list : DS := (sRet (dIf (dTru (dCall [true, false] [] fn__law_take (dRefA 0 (dCons (dC (.int 2)) dNil)))) (dCallB gList (dCons (dVar 1) dNil)) (dCallB gTuple (dCons (dVar 1) dNil))))
def fn__law_list : List D → FO := defF [true, false] 2 F__law_list
def F__law_int : DS := (sRet (dAnd (dIsi ["int"] (dVar 0)) (dNot (dIsi ["bool"] (dVar 0)))))
def fn__law_int : List D → FO := defF [false] 1 F__law_int
def Q__law_exact_0 (self : List D → FO) : DT := (tNotD (dTru (dCall [false, false] [] self (dCons (dIxV 0 (dVar 2)) (dCons (dIxV 1 (dVar 2)) dNil)))))
def E__law_exact_0 (self : List D → FO) : DE := (dVar 2)
def F__law_exact (self : List D → FO) : DS := (sSeq (sIf (dTru (dIsi ["tuple"] (dVar 1))) (sSeq (sIf (tOrD (tNotD (dTru (dIsi ["tuple"] (dVar 0)))) (dTest (dBin (gEq true) (dLenV 0) (dLenV 1)))) (sRet (dC (.bl false))) sNil) (sRet (dBin (gEq false) (dComp (dRg1 (dLenV 1)) (setV 2) (Q__law_exact_0 self) (E__law_exact_0 self) [2]) (dLst dNil)))) sNil) (sSeq (sIf (dTest (dBin (gIs false) (dVar 1) (dC .non))) (sRet (dBin (gIs false) (dVar 0) (dC .non))) sNil) (sSeq (sIf (dTru (dIsi ["bool"] (dVar 1))) (sRet (dIf (dTruV 1) (dBin (gIs false) (dVar 0) (dC (.bl true))) (dBin (gIs false) (dVar 0) (dC (.bl false))))) sNil) (sSeq (sIf (dTru (dIsi ["str"] (dVar 1))) (sRet (dAnd (dIsi ["str"] (dVar 0)) (dBin (gEq false) (dVar 0) (dVar 1)))) sNil) (sRet (dAnd (dCall [false] [] fn__law_int (dCons (dVar 0) dNil)) (dBin (gEq false) (dVar 0) (dVar 1))))))))
def fn__law_exact : Nat → List D → FO
  | 0 => fun _ => .st
  | n + 1 => defF [false, false] 3 (F__law_exact (fn__law_exact n))
def E__law_rounds_0 : DE := (dCall [false, false] [] fn__law_rounded (dCons (dVar 0) (dCons (dVar 2) dNil)))
def F__law_rounds : DS := (sRet (dComp (dRg1 (dBin (gI cPow fun i j => i * 2 ^ j.toNat) (dC (.int 1)) (dVar 1))) (setV 2) dYes E__law_rounds_0 [2]))
def fn__law_rounds : List D → FO := defF [false, false] 3 F__law_rounds
def F__law_alike : DS := (sRet (dBin (gEq false) (dIxV 0 (dCall [false, false] [] fn__law_next (dCons (dVar 1) (dCons (dVar 2) dNil)))) (dIxV 0 (dCall [false, false] [] fn__law_next (dCons (dVar 1) (dCons (dIxV 0 (dVar 2)) dNil))))))
def fn__law_alike : List D → FO := defF [false, false, false] 3 F__law_alike
def E__law_refined_0 : DE := (dCall [false, false] [] fn__law_back (dCons (dVar 5) (dCons (dVar 7) dNil)))
def B__law_refined_0 : DS := (sSet 4 (dBin gAdd (dVar 4) (dComp (dIt (dVar 1)) (setV 7) dYes E__law_refined_0 [7])))
def B__law_refined_1 : DS := (sSeq (sSet 4 (dCallB gList (dCons (dVar 1) dNil))) (sSeq (sFor (dIt (dVar 2)) (setV 5) B__law_refined_0) (sSeq (sSet 6 (dCall [false, false] [] fn__law_met (dCons (dVar 0) (dCons (dVar 4) dNil)))) (sSeq (sIf (dTest (dBin (gEq false) (dVar 6) (dVar 1))) (sRet (dVar 1)) sNil) (sSet 1 (dVar 6))))))
def F__law_refined : DS := (sSeq (sFor (dRg1 (dC (.int 64))) (setV 3) B__law_refined_1) (sRet (dVar 1)))
def fn__law_refined : List D → FO := defF [false, false, false] 8 F__law_refined
def E__law_rich_members_0 : DE := (dCall [true, false] [] fn__law_take (dRefA 0 (dCons (dBin (gI cPow fun i j => i * 2 ^ j.toNat) (dC (.int 1)) (dVar 1)) dNil)))
def F__law_rich_members : DS := (sSeq (sIf (dTest (dBin (gEq false) (dCall [true, false] [] fn__law_take (dRefA 0 (dCons (dC (.int 2)) dNil))) (dC (.int 0)))) (sRet (dCall [true, false] [] fn__law_members (dRefA 0 (dCons (dVar 1) dNil)))) sNil) (sRet (dCall [false, false] [] fn__law_met (dCons (dVar 1) (dCons (dBin gAdd (dLst (dCons (dC (.int 0)) dNil)) (dComp (dRg1 (dBin gAdd (dC (.int 2)) (dCall [true, false] [] fn__law_take (dRefA 0 (dCons (dC (.int 3)) dNil))))) (setV 2) dYes E__law_rich_members_0 [2])) dNil)))))
def fn__law_rich_members : List D → FO := defF [true, false] 3 F__law_rich_members
def E_law_0 : DE := (dCall [false, false] [] fn__law_back (dCons (dVar 4) (dCons (dVar 17) dNil)))
def Q_law_0 : DT := (tAndD (dTru (dCall [false, false] [] fn__law_within (dCons (dVar 10) (dCons (dIxV 8 (dVar 18)) dNil)))) (tNotD (dTru (dCall [false, false] [] fn__law_within (dCons (dIxV 7 (dVar 10)) (dCons (dIxV 8 (dVar 18)) dNil))))))
def E_law_1 : DE := (dIxV 3 (dVar 18))
def B_law_0 : DS := (sSeq (sSet 11 (dCall [false, false, false] [] fn_sharp_at (dCons (dVar 5) (dCons (dVar 6) (dCons (dVar 10) dNil))))) (sSeq (sIf (tNotD (dTru (dCall [false, false] [] (fn__law_exact 4) (dCons (dVar 11) (dCons (dCall [false, false, false] [] fn__law_alike (dCons (dVar 7) (dCons (dVar 4) (dCons (dVar 10) dNil)))) dNil))))) (sRet (dC (.bl false))) sNil) (sSeq (sApp 9 (dVar 11)) (sSeq (sSet 12 (dIxV 7 (dCall [false, false] [] fn__law_next (dCons (dVar 4) (dCons (dVar 10) dNil))))) (sSeq (sSet 13 (dBin (gI (fun _ _ => true) fun i j => i - j) (dIxV 7 (dVar 10)) (dBin (gI (fun _ _ => true) Builtin.bitAnd) (dIxV 7 (dVar 10)) (dCall [false, false] [] fn__law_back (dCons (dVar 4) (dCons (dVar 12) dNil)))))) (sSeq (sIf (tNotD (dTru (dCall [false, false] [] (fn__law_exact 4) (dCons (dCall [false, false, false] [] fn_blurring_lot (dCons (dVar 5) (dCons (dVar 6) (dCons (dVar 10) dNil)))) (dCons (dVar 13) dNil))))) (sRet (dC (.bl false))) sNil) (sSeq (sIf (dTest (dBin (gEq true) (dVar 11) (dBin (gEq false) (dVar 13) (dC (.int 0))))) (sRet (dC (.bl false))) sNil) (sSeq (sSet 14 (dComp (dRg1 (dLenV 3)) (setV 18) Q_law_0 E_law_1 [18])) (sSeq (sIf (dTest (dBin (gEq true) (dVar 11) (dBin (gEq false) (dVar 14) (dLst dNil)))) (sRet (dC (.bl false))) sNil) (sIf (tAndD (dTest (dBin (gEq true) (dVar 14) (dLst dNil))) (dTest (dBin (gEq true) (dIxV 14 (dC (.int 0))) (dVar 12)))) (sRet (dC (.bl false))) sNil))))))))))
def B_law_1 : DS := (sSeq (sSet 16 (dBin (gI (fun _ _ => true) Builtin.bitOr) (dVar 10) (dBin (gI cPow fun i j => i * 2 ^ j.toNat) (dC (.int 1)) (dVar 15)))) (sIf (tAndD (dTru (dIxV 9 (dVar 10))) (tAndD (dTru (dCall [false, false] [] fn__law_within (dCons (dVar 16) (dCons (dIxV 7 (dVar 10)) dNil)))) (tNotD (dTru (dIxV 9 (dVar 16)))))) (sRet (dC (.bl false))) sNil))
def B_law_2 : DS := (sFor (dRg1 (dVar 2)) (setV 15) B_law_1)
def F_law : DS := (sSeq (sSetO 1 (dCallO [false] [] fn__law_hand (dCons (dVar 0) dNil))) (sSeq (sSet 2 (dCall [true] [] fn__law_stands (dRefA 1 dNil))) (sSeq (sSet 3 (dCall [true, false] [] fn__law_rich_members (dRefA 1 (dCons (dVar 2) dNil)))) (sSeq (sSet 4 (dCall [true, false] [] fn__law_drawn_row (dRefA 1 (dCons (dVar 2) dNil)))) (sSeq (sIf (dTest (dBin (gEq false) (dCall [true, false] [] fn__law_take (dRefA 1 (dCons (dC (.int 4)) dNil))) (dC (.int 0)))) (sSet 3 (dCall [false, false, false] [] fn__law_refined (dCons (dVar 2) (dCons (dVar 3) (dCons (dLst (dCons (dVar 4) dNil)) dNil))))) sNil) (sSeq (sSet 5 (dMake "Glasses" [true, false, false] [] fn_Glasses_init (dCons (dVar 2) (dCons (dCall [true, false] [] fn__law_list (dRefA 1 (dCons (dVar 3) dNil))) dNil)))) (sSeq (sSet 6 (dCall [true, false] [] fn__law_list (dRefA 1 (dCons (dVar 4) dNil)))) (sSeq (sSet 7 (dCall [false, false] [] fn__law_rounds (dCons (dVar 3) (dCons (dVar 2) dNil)))) (sSeq (sSet 8 (dComp (dIt (dVar 3)) (setV 17) dYes E_law_0 [17])) (sSeq (sSetO 9 (dLst dNil)) (sSeq (sFor (dRg1 (dBin (gI cPow fun i j => i * 2 ^ j.toNat) (dC (.int 1)) (dVar 2))) (setV 10) B_law_0) (sSeq (sFor (dRg1 (dBin (gI cPow fun i j => i * 2 ^ j.toNat) (dC (.int 1)) (dVar 2))) (setV 10) B_law_2) (sRet (dBin (gEq false) (dCallB gList (dCons (dVar 6) dNil)) (dVar 4)))))))))))))))
def fn_law : List D → FO := defF [false] 19 F_law
theorem o_is_sequence (x0 : D) : fn_is_sequence [x0] = toFO [false] (F_is_sequence [.val x0]) := (opn [false] [x0] 1 F_is_sequence rfl).trans (congrArg (fun e => toFO [false] (F_is_sequence e)) (rfl : mkEnv [false] [x0] 1 = [.val x0]))
theorem o_is_whole (x0 x1 x2 : D) : fn_is_whole [x0, x1, x2] = toFO [false, false, false] (F_is_whole [.val x0, .val x1, .val x2]) := (opn [false, false, false] [x0, x1, x2] 3 F_is_whole rfl).trans (congrArg (fun e => toFO [false, false, false] (F_is_whole e)) (rfl : mkEnv [false, false, false] [x0, x1, x2] 3 = [.val x0, .val x1, .val x2]))
theorem o_check_stands (x0 : D) : fn_check_stands [x0] = toFO [false] (F_check_stands [.val x0]) := (opn [false] [x0] 1 F_check_stands rfl).trans (congrArg (fun e => toFO [false] (F_check_stands e)) (rfl : mkEnv [false] [x0] 1 = [.val x0]))
theorem o_all_stands (x0 : D) : fn_all_stands [x0] = toFO [false] (F_all_stands [.val x0]) := (opn [false] [x0] 1 F_all_stands rfl).trans (congrArg (fun e => toFO [false] (F_all_stands e)) (rfl : mkEnv [false] [x0] 1 = [.val x0]))
theorem o_check_lot (x0 x1 : D) : fn_check_lot [x0, x1] = toFO [false, false] (F_check_lot [.val x0, .val x1]) := (opn [false, false] [x0, x1] 2 F_check_lot rfl).trans (congrArg (fun e => toFO [false, false] (F_check_lot e)) (rfl : mkEnv [false, false] [x0, x1] 2 = [.val x0, .val x1]))
theorem o_check_row (x0 x1 : D) : fn_check_row [x0, x1] = toFO [false, false] (F_check_row [.val x0, .val x1, .un, .un, .un]) := (opn [false, false] [x0, x1] 5 F_check_row rfl).trans (congrArg (fun e => toFO [false, false] (F_check_row e)) (rfl : mkEnv [false, false] [x0, x1] 5 = [.val x0, .val x1, .un, .un, .un]))
theorem o_next_lot (x0 x1 : D) : fn_next_lot [x0, x1] = toFO [false, false] (F_next_lot [.val x0, .val x1, .un, .un, .un]) := (opn [false, false] [x0, x1] 5 F_next_lot rfl).trans (congrArg (fun e => toFO [false, false] (F_next_lot e)) (rfl : mkEnv [false, false] [x0, x1] 5 = [.val x0, .val x1, .un, .un, .un]))
theorem o_back_lot (x0 x1 : D) : fn_back_lot [x0, x1] = toFO [false, false] (F_back_lot [.val x0, .val x1, .un, .un, .un]) := (opn [false, false] [x0, x1] 5 F_back_lot rfl).trans (congrArg (fun e => toFO [false, false] (F_back_lot e)) (rfl : mkEnv [false, false] [x0, x1] 5 = [.val x0, .val x1, .un, .un, .un]))
theorem o_Glasses_rounded (x0 x1 : D) : fn_Glasses_rounded [x0, x1] = toFO [false, false] (F_Glasses_rounded [.val x0, .val x1, .un]) := (opn [false, false] [x0, x1] 3 F_Glasses_rounded rfl).trans (congrArg (fun e => toFO [false, false] (F_Glasses_rounded e)) (rfl : mkEnv [false, false] [x0, x1] 3 = [.val x0, .val x1, .un]))
theorem o__is_sharp (x0 x1 x2 : D) : fn__is_sharp [x0, x1, x2] = toFO [false, false, false] (F__is_sharp [.val x0, .val x1, .val x2, .un]) := (opn [false, false, false] [x0, x1, x2] 4 F__is_sharp rfl).trans (congrArg (fun e => toFO [false, false, false] (F__is_sharp e)) (rfl : mkEnv [false, false, false] [x0, x1, x2] 4 = [.val x0, .val x1, .val x2, .un]))
theorem o_sharp_at (x0 x1 x2 : D) : fn_sharp_at [x0, x1, x2] = toFO [false, false, false] (F_sharp_at [.val x0, .val x1, .val x2, .un]) := (opn [false, false, false] [x0, x1, x2] 4 F_sharp_at rfl).trans (congrArg (fun e => toFO [false, false, false] (F_sharp_at e)) (rfl : mkEnv [false, false, false] [x0, x1, x2] 4 = [.val x0, .val x1, .val x2, .un]))
theorem o_blurring_lot (x0 x1 x2 : D) : fn_blurring_lot [x0, x1, x2] = toFO [false, false, false] (F_blurring_lot [.val x0, .val x1, .val x2, .un, .un]) := (opn [false, false, false] [x0, x1, x2] 5 F_blurring_lot rfl).trans (congrArg (fun e => toFO [false, false, false] (F_blurring_lot e)) (rfl : mkEnv [false, false, false] [x0, x1, x2] 5 = [.val x0, .val x1, .val x2, .un, .un]))
theorem o__check_ascending (x0 x1 : D) : fn__check_ascending [x0, x1] = toFO [false, false] (F__check_ascending [.val x0, .val x1, .un, .un, .un]) := (opn [false, false] [x0, x1] 5 F__check_ascending rfl).trans (congrArg (fun e => toFO [false, false] (F__check_ascending e)) (rfl : mkEnv [false, false] [x0, x1] 5 = [.val x0, .val x1, .un, .un, .un]))
theorem o__check_meets (x0 : D) : fn__check_meets [x0] = toFO [false] (F__check_meets [.val x0, .un, .un, .un, .un]) := (opn [false] [x0] 5 F__check_meets rfl).trans (congrArg (fun e => toFO [false] (F__check_meets e)) (rfl : mkEnv [false] [x0] 5 = [.val x0, .un, .un, .un, .un]))
theorem o__checked_members (x0 x1 : D) : fn__checked_members [x0, x1] = toFO [false, false] (F__checked_members [.val x0, .val x1, .un]) := (opn [false, false] [x0, x1] 3 F__checked_members rfl).trans (congrArg (fun e => toFO [false, false] (F__checked_members e)) (rfl : mkEnv [false, false] [x0, x1] 3 = [.val x0, .val x1, .un]))
theorem o_Glasses_init (x0 x1 x2 : D) : fn_Glasses_init [x0, x1, x2] = toFO [true, false, false] (F_Glasses_init [.rf x0, .val x1, .val x2, .un]) := (opn [true, false, false] [x0, x1, x2] 4 F_Glasses_init rfl).trans (congrArg (fun e => toFO [true, false, false] (F_Glasses_init e)) (rfl : mkEnv [true, false, false] [x0, x1, x2] 4 = [.rf x0, .val x1, .val x2, .un]))
theorem o__law_hand (x0 : D) : fn__law_hand [x0] = toFO [false] (F__law_hand [.val x0, .un, .un, .un]) := (opn [false] [x0] 4 F__law_hand rfl).trans (congrArg (fun e => toFO [false] (F__law_hand e)) (rfl : mkEnv [false] [x0] 4 = [.val x0, .un, .un, .un]))
theorem o__law_mixed (x0 x1 : D) : fn__law_mixed [x0, x1] = toFO [false, false] (F__law_mixed [.val x0, .val x1, .un, .un]) := (opn [false, false] [x0, x1] 4 F__law_mixed rfl).trans (congrArg (fun e => toFO [false, false] (F__law_mixed e)) (rfl : mkEnv [false, false] [x0, x1] 4 = [.val x0, .val x1, .un, .un]))
theorem o__law_take (x0 x1 : D) : fn__law_take [x0, x1] = toFO [true, false] (F__law_take [.rf x0, .val x1, .un, .un]) := (opn [true, false] [x0, x1] 4 F__law_take rfl).trans (congrArg (fun e => toFO [true, false] (F__law_take e)) (rfl : mkEnv [true, false] [x0, x1] 4 = [.rf x0, .val x1, .un, .un]))
theorem o__law_stands (x0 : D) : fn__law_stands [x0] = toFO [true] (F__law_stands [.rf x0]) := (opn [true] [x0] 1 F__law_stands rfl).trans (congrArg (fun e => toFO [true] (F__law_stands e)) (rfl : mkEnv [true] [x0] 1 = [.rf x0]))
theorem o__law_every (x0 : D) : fn__law_every [x0] = toFO [false] (F__law_every [.val x0]) := (opn [false] [x0] 1 F__law_every rfl).trans (congrArg (fun e => toFO [false] (F__law_every e)) (rfl : mkEnv [false] [x0] 1 = [.val x0]))
theorem o__law_within (x0 x1 : D) : fn__law_within [x0, x1] = toFO [false, false] (F__law_within [.val x0, .val x1]) := (opn [false, false] [x0, x1] 2 F__law_within rfl).trans (congrArg (fun e => toFO [false, false] (F__law_within e)) (rfl : mkEnv [false, false] [x0, x1] 2 = [.val x0, .val x1]))
theorem o__law_met (x0 x1 : D) : fn__law_met [x0, x1] = toFO [false, false] (F__law_met [.val x0, .val x1, .un, .un, .un]) := (opn [false, false] [x0, x1] 5 F__law_met rfl).trans (congrArg (fun e => toFO [false, false] (F__law_met e)) (rfl : mkEnv [false, false] [x0, x1] 5 = [.val x0, .val x1, .un, .un, .un]))
theorem o__law_members (x0 x1 : D) : fn__law_members [x0, x1] = toFO [true, false] (F__law_members [.rf x0, .val x1, .un, .un, .un]) := (opn [true, false] [x0, x1] 5 F__law_members rfl).trans (congrArg (fun e => toFO [true, false] (F__law_members e)) (rfl : mkEnv [true, false] [x0, x1] 5 = [.rf x0, .val x1, .un, .un, .un]))
theorem o__law_rounded (x0 x1 : D) : fn__law_rounded [x0, x1] = toFO [false, false] (F__law_rounded [.val x0, .val x1, .un, .un]) := (opn [false, false] [x0, x1] 4 F__law_rounded rfl).trans (congrArg (fun e => toFO [false, false] (F__law_rounded e)) (rfl : mkEnv [false, false] [x0, x1] 4 = [.val x0, .val x1, .un, .un]))
theorem o__law_single (x0 x1 : D) : fn__law_single [x0, x1] = toFO [true, false] (F__law_single [.rf x0, .val x1, .un]) := (opn [true, false] [x0, x1] 3 F__law_single rfl).trans (congrArg (fun e => toFO [true, false] (F__law_single e)) (rfl : mkEnv [true, false] [x0, x1] 3 = [.rf x0, .val x1, .un]))
theorem o__law_drawn_row (x0 x1 : D) : fn__law_drawn_row [x0, x1] = toFO [true, false] (F__law_drawn_row [.rf x0, .val x1, .un, .un, .un, .un]) := (opn [true, false] [x0, x1] 6 F__law_drawn_row rfl).trans (congrArg (fun e => toFO [true, false] (F__law_drawn_row e)) (rfl : mkEnv [true, false] [x0, x1] 6 = [.rf x0, .val x1, .un, .un, .un, .un]))
theorem o__law_next (x0 x1 : D) : fn__law_next [x0, x1] = toFO [false, false] (F__law_next [.val x0, .val x1, .un, .un]) := (opn [false, false] [x0, x1] 4 F__law_next rfl).trans (congrArg (fun e => toFO [false, false] (F__law_next e)) (rfl : mkEnv [false, false] [x0, x1] 4 = [.val x0, .val x1, .un, .un]))
theorem o__law_back (x0 x1 : D) : fn__law_back [x0, x1] = toFO [false, false] (F__law_back [.val x0, .val x1, .un, .un]) := (opn [false, false] [x0, x1] 4 F__law_back rfl).trans (congrArg (fun e => toFO [false, false] (F__law_back e)) (rfl : mkEnv [false, false] [x0, x1] 4 = [.val x0, .val x1, .un, .un]))
theorem o__law_list (x0 x1 : D) : fn__law_list [x0, x1] = toFO [true, false] (F__law_list [.rf x0, .val x1]) := (opn [true, false] [x0, x1] 2 F__law_list rfl).trans (congrArg (fun e => toFO [true, false] (F__law_list e)) (rfl : mkEnv [true, false] [x0, x1] 2 = [.rf x0, .val x1]))
theorem o__law_int (x0 : D) : fn__law_int [x0] = toFO [false] (F__law_int [.val x0]) := (opn [false] [x0] 1 F__law_int rfl).trans (congrArg (fun e => toFO [false] (F__law_int e)) (rfl : mkEnv [false] [x0] 1 = [.val x0]))
theorem o__law_exact (n : Nat) (x0 x1 : D) : fn__law_exact (n + 1) [x0, x1] = toFO [false, false] ((F__law_exact (fn__law_exact n)) [.val x0, .val x1, .un]) := (opn [false, false] [x0, x1] 3 (F__law_exact (fn__law_exact n)) rfl).trans (congrArg (fun e => toFO [false, false] ((F__law_exact (fn__law_exact n)) e)) (rfl : mkEnv [false, false] [x0, x1] 3 = [.val x0, .val x1, .un]))
theorem o__law_rounds (x0 x1 : D) : fn__law_rounds [x0, x1] = toFO [false, false] (F__law_rounds [.val x0, .val x1, .un]) := (opn [false, false] [x0, x1] 3 F__law_rounds rfl).trans (congrArg (fun e => toFO [false, false] (F__law_rounds e)) (rfl : mkEnv [false, false] [x0, x1] 3 = [.val x0, .val x1, .un]))
theorem o__law_alike (x0 x1 x2 : D) : fn__law_alike [x0, x1, x2] = toFO [false, false, false] (F__law_alike [.val x0, .val x1, .val x2]) := (opn [false, false, false] [x0, x1, x2] 3 F__law_alike rfl).trans (congrArg (fun e => toFO [false, false, false] (F__law_alike e)) (rfl : mkEnv [false, false, false] [x0, x1, x2] 3 = [.val x0, .val x1, .val x2]))
theorem o__law_refined (x0 x1 x2 : D) : fn__law_refined [x0, x1, x2] = toFO [false, false, false] (F__law_refined [.val x0, .val x1, .val x2, .un, .un, .un, .un, .un]) := (opn [false, false, false] [x0, x1, x2] 8 F__law_refined rfl).trans (congrArg (fun e => toFO [false, false, false] (F__law_refined e)) (rfl : mkEnv [false, false, false] [x0, x1, x2] 8 = [.val x0, .val x1, .val x2, .un, .un, .un, .un, .un]))
theorem o__law_rich_members (x0 x1 : D) : fn__law_rich_members [x0, x1] = toFO [true, false] (F__law_rich_members [.rf x0, .val x1, .un]) := (opn [true, false] [x0, x1] 3 F__law_rich_members rfl).trans (congrArg (fun e => toFO [true, false] (F__law_rich_members e)) (rfl : mkEnv [true, false] [x0, x1] 3 = [.rf x0, .val x1, .un]))
theorem o_law (x0 : D) : fn_law [x0] = toFO [false] (F_law [.val x0, .un, .un, .un, .un, .un, .un, .un, .un, .un, .un, .un, .un, .un, .un, .un, .un, .un, .un]) := (opn [false] [x0] 19 F_law rfl).trans (congrArg (fun e => toFO [false] (F_law e)) (rfl : mkEnv [false] [x0] 19 = [.val x0, .un, .un, .un, .un, .un, .un, .un, .un, .un, .un, .un, .un, .un, .un, .un, .un, .un, .un]))
/-! ### the facts -/
structure Ft (P : Program) (w : World) (K : PySem.W.Frag) (mg : Str → Option Value) (cl : Cw) : Prop where
  cp : cl.P = P
  cw : cl.w = w
  a_members : FldC K cl cs_members "members"
  a_stands : FldC K cl cs_stands "stands"
  n_abs : mg "abs" = none
  n_bool : mg "bool" = none
  n_enumerate : mg "enumerate" = none
  n_int : mg "int" = none
  n_isinstance : mg "isinstance" = none
  n_len : mg "len" = none
  n_list : mg "list" = none
  n_min : mg "min" = none
  n_range : mg "range" = none
  n_set : mg "set" = none
  n_sorted : mg "sorted" = none
  n_str : mg "str" = none
  n_tuple : mg "tuple" = none
  i_MOST_STANDS : ∃ t, mg "MOST_STANDS" = some (.int 6 t)
  e_BadStands : ∃ C, ExcC K mg cl "BadStands" C
  e_BadLot : ∃ C, ExcC K mg cl "BadLot" C
  tab : ExmTab K cl tabE
  d_is_sequence : ∃ f fd, FunD K "is_sequence" "is_sequence" (defArgs s_is_sequence) (defBody s_is_sequence) (defScope s_is_sequence) [] [] f fd ∧ mg "is_sequence" = some (.ref f)
  d_is_whole : ∃ f fd, FunD K "is_whole" "is_whole" (defArgs s_is_whole) (defBody s_is_whole) (defScope s_is_whole) [.non, .non] [] f fd ∧ mg "is_whole" = some (.ref f)
  d_check_stands : ∃ f fd, FunD K "check_stands" "check_stands" (defArgs s_check_stands) (defBody s_check_stands) (defScope s_check_stands) [] [] f fd ∧ mg "check_stands" = some (.ref f)
  d_all_stands : ∃ f fd, FunD K "all_stands" "all_stands" (defArgs s_all_stands) (defBody s_all_stands) (defScope s_all_stands) [] [] f fd ∧ mg "all_stands" = some (.ref f)
  d_check_lot : ∃ f fd, FunD K "check_lot" "check_lot" (defArgs s_check_lot) (defBody s_check_lot) (defScope s_check_lot) [] [] f fd ∧ mg "check_lot" = some (.ref f)
  d_check_row : ∃ f fd, FunD K "check_row" "check_row" (defArgs s_check_row) (defBody s_check_row) (defScope s_check_row) [] [] f fd ∧ mg "check_row" = some (.ref f)
  d_next_lot : ∃ f fd, FunD K "next_lot" "next_lot" (defArgs s_next_lot) (defBody s_next_lot) (defScope s_next_lot) [] [] f fd ∧ mg "next_lot" = some (.ref f)
  d_back_lot : ∃ f fd, FunD K "back_lot" "back_lot" (defArgs s_back_lot) (defBody s_back_lot) (defScope s_back_lot) [] [] f fd ∧ mg "back_lot" = some (.ref f)
  d_Glasses_rounded : ∃ C f fd, cl "Glasses" = some C ∧ Cls K C ∧ Meth K C "rounded" f ∧ FunD K "rounded" "Glasses.rounded" (defArgs s_Glasses_rounded) (defBody s_Glasses_rounded) (defScope s_Glasses_rounded) [] [] f fd
  d__is_sharp : ∃ f fd, FunD K "_is_sharp" "_is_sharp" (defArgs s__is_sharp) (defBody s__is_sharp) (defScope s__is_sharp) [] [] f fd ∧ mg "_is_sharp" = some (.ref f)
  d_sharp_at : ∃ f fd, FunD K "sharp_at" "sharp_at" (defArgs s_sharp_at) (defBody s_sharp_at) (defScope s_sharp_at) [] [] f fd ∧ mg "sharp_at" = some (.ref f)
  d_blurring_lot : ∃ f fd, FunD K "blurring_lot" "blurring_lot" (defArgs s_blurring_lot) (defBody s_blurring_lot) (defScope s_blurring_lot) [] [] f fd ∧ mg "blurring_lot" = some (.ref f)
  d__check_ascending : ∃ f fd, FunD K "_check_ascending" "_check_ascending" (defArgs s__check_ascending) (defBody s__check_ascending) (defScope s__check_ascending) [] [] f fd ∧ mg "_check_ascending" = some (.ref f)
  d__check_meets : ∃ f fd, FunD K "_check_meets" "_check_meets" (defArgs s__check_meets) (defBody s__check_meets) (defScope s__check_meets) [] [] f fd ∧ mg "_check_meets" = some (.ref f)
  d__checked_members : ∃ f fd, FunD K "_checked_members" "_checked_members" (defArgs s__checked_members) (defBody s__checked_members) (defScope s__checked_members) [] [] f fd ∧ mg "_checked_members" = some (.ref f)
  d_Glasses_init : ∃ C f fd, cl "Glasses" = some C ∧ mg "Glasses" = some (.ref C) ∧ Mk K C f ∧ FunD K "__init__" "Glasses.__init__" (defArgs s_Glasses_init) (defBody s_Glasses_init) (defScope s_Glasses_init) [] [] f fd
  d__law_hand : ∃ f fd, FunD K "_law_hand" "_law_hand" (defArgs s__law_hand) (defBody s__law_hand) (defScope s__law_hand) [] [] f fd ∧ mg "_law_hand" = some (.ref f)
  d__law_mixed : ∃ f fd, FunD K "_law_mixed" "_law_mixed" (defArgs s__law_mixed) (defBody s__law_mixed) (defScope s__law_mixed) [] [] f fd ∧ mg "_law_mixed" = some (.ref f)
  d__law_take : ∃ f fd, FunD K "_law_take" "_law_take" (defArgs s__law_take) (defBody s__law_take) (defScope s__law_take) [] [] f fd ∧ mg "_law_take" = some (.ref f)
  d__law_stands : ∃ f fd, FunD K "_law_stands" "_law_stands" (defArgs s__law_stands) (defBody s__law_stands) (defScope s__law_stands) [] [] f fd ∧ mg "_law_stands" = some (.ref f)
  d__law_every : ∃ f fd, FunD K "_law_every" "_law_every" (defArgs s__law_every) (defBody s__law_every) (defScope s__law_every) [] [] f fd ∧ mg "_law_every" = some (.ref f)
  d__law_within : ∃ f fd, FunD K "_law_within" "_law_within" (defArgs s__law_within) (defBody s__law_within) (defScope s__law_within) [] [] f fd ∧ mg "_law_within" = some (.ref f)
  d__law_met : ∃ f fd, FunD K "_law_met" "_law_met" (defArgs s__law_met) (defBody s__law_met) (defScope s__law_met) [] [] f fd ∧ mg "_law_met" = some (.ref f)
  d__law_members : ∃ f fd, FunD K "_law_members" "_law_members" (defArgs s__law_members) (defBody s__law_members) (defScope s__law_members) [] [] f fd ∧ mg "_law_members" = some (.ref f)
  d__law_rounded : ∃ f fd, FunD K "_law_rounded" "_law_rounded" (defArgs s__law_rounded) (defBody s__law_rounded) (defScope s__law_rounded) [] [] f fd ∧ mg "_law_rounded" = some (.ref f)
  d__law_single : ∃ f fd, FunD K "_law_single" "_law_single" (defArgs s__law_single) (defBody s__law_single) (defScope s__law_single) [] [] f fd ∧ mg "_law_single" = some (.ref f)
  d__law_drawn_row : ∃ f fd, FunD K "_law_drawn_row" "_law_drawn_row" (defArgs s__law_drawn_row) (defBody s__law_drawn_row) (defScope s__law_drawn_row) [] [] f fd ∧ mg "_law_drawn_row" = some (.ref f)
  d__law_next : ∃ f fd, FunD K "_law_next" "_law_next" (defArgs s__law_next) (defBody s__law_next) (defScope s__law_next) [] [] f fd ∧ mg "_law_next" = some (.ref f)
  d__law_back : ∃ f fd, FunD K "_law_back" "_law_back" (defArgs s__law_back) (defBody s__law_back) (defScope s__law_back) [] [] f fd ∧ mg "_law_back" = some (.ref f)
  d__law_list : ∃ f fd, FunD K "_law_list" "_law_list" (defArgs s__law_list) (defBody s__law_list) (defScope s__law_list) [] [] f fd ∧ mg "_law_list" = some (.ref f)
  d__law_int : ∃ f fd, FunD K "_law_int" "_law_int" (defArgs s__law_int) (defBody s__law_int) (defScope s__law_int) [] [] f fd ∧ mg "_law_int" = some (.ref f)
  d__law_exact : ∃ f fd, FunD K "_law_exact" "_law_exact" (defArgs s__law_exact) (defBody s__law_exact) (defScope s__law_exact) [] [] f fd ∧ mg "_law_exact" = some (.ref f)
  d__law_rounds : ∃ f fd, FunD K "_law_rounds" "_law_rounds" (defArgs s__law_rounds) (defBody s__law_rounds) (defScope s__law_rounds) [] [] f fd ∧ mg "_law_rounds" = some (.ref f)
  d__law_alike : ∃ f fd, FunD K "_law_alike" "_law_alike" (defArgs s__law_alike) (defBody s__law_alike) (defScope s__law_alike) [] [] f fd ∧ mg "_law_alike" = some (.ref f)
  d__law_refined : ∃ f fd, FunD K "_law_refined" "_law_refined" (defArgs s__law_refined) (defBody s__law_refined) (defScope s__law_refined) [] [] f fd ∧ mg "_law_refined" = some (.ref f)
  d__law_rich_members : ∃ f fd, FunD K "_law_rich_members" "_law_rich_members" (defArgs s__law_rich_members) (defBody s__law_rich_members) (defScope s__law_rich_members) [] [] f fd ∧ mg "_law_rich_members" = some (.ref f)
  d_law : ∃ f fd, FunD K "law" "law" (defArgs s_law) (defBody s_law) (defScope s_law) [] [] f fd ∧ mg "law" = some (.ref f)
section
variable {P : Program} {w : World} {K : PySem.W.Frag} {mg : Str → Option Value} {base : Heap} {cl : Cw}
theorem cal_is_sequence_1 (T : Ft P w K mg cl) : Cal P w K mg base cl 1 "is_sequence" [false] fn_is_sequence [] := by
  obtain ⟨f, fd, F, g⟩ := T.d_is_sequence
  have b : Binds K fd ["thing"] [] := F.bindsN fun _ _ _ _ _ _ us hl => match us, hl with | [_], _ => rfl
  refine ⟨f, fd, ["thing"], [], [], ⟨def_okD (N := N_is_sequence) F sc_is_sequence rfl (fun cdv A outer s H E hr tk po => ?_), g, F.kp⟩, b, .nil, fun _ => .nil⟩
  refine (jss_one ?_)
  refine (js_ret ?_)
  refine (je_isi2 (T' := "list") (S' := "tuple") (by decide) (by decide) rfl T.n_isinstance (pe_tyn T.n_list (by decide +kernel)) (pe_tyn T.n_tuple (by decide +kernel)) ?_)
  exact (je_var (pv 0))
theorem cal_is_whole_3 (T : Ft P w K mg cl) : Cal P w K mg base cl 1 "is_whole" [false, false, false] fn_is_whole [] := by
  obtain ⟨f, fd, F, g⟩ := T.d_is_whole
  obtain ⟨ds, hv, b⟩ := F.binds1 (ps := ["thing", "low", "high"]) 3 2 (by simp) rfl fun _ _ _ _ _ _ _ us its h1 h2 => match us, its, h1, h2 with | [_, _, _], [_, _], _, _ => ⟨_, rfl, rfl⟩
  refine ⟨f, fd, ["thing", "low", "high"], ds, _, ⟨def_okD (N := N_is_whole) F sc_is_whole rfl (fun cdv A outer s H E hr tk po => ?_), g, F.kp⟩, b, hv, fun _ => .nil⟩
  refine (jss_cons ?_ ?_)
  · refine (js_if ?_ ?_ ?_)
    · refine (JW.jt ?_)
      refine (jw_or ?_ (jw_or1 ?_))
      · refine (jt_truth ?_ (fun _ => rfl))
        exact (je_isi (x := "") (T' := "bool") (by decide) rfl T.n_isinstance (pe_tyn T.n_bool (by decide +kernel)) (je_var (pv 0)))
      refine (jt_not ?_)
      refine (jt_truth ?_ (fun _ => rfl))
      exact (je_isi (x := "") (T' := "int") (by decide) rfl T.n_isinstance (pe_tyn T.n_int (by decide +kernel)) (je_var (pv 0)))
    · refine (jss_one ?_)
      exact (js_ret je_bl)
    exact jss_nil
  refine (jss_cons ?_ ?_)
  · refine (js_if ?_ ?_ ?_)
    · refine (JW.jt ?_)
      refine (jw_and ?_ (jw_and1 ?_))
      · exact (jt_cm cr_isnot (je_var (pv 1)) je_non)
      exact (jt_cm cr_lt (je_var (pv 0)) (je_var (pv 1)))
    · refine (jss_one ?_)
      exact (js_ret je_bl)
    exact jss_nil
  refine (jss_one ?_)
  refine (js_ret ?_)
  refine (je_or ?_ (je_one ?_))
  · exact (je_cm cr_is (je_var (pv 2)) je_non)
  exact (je_cm cr_le (je_var (pv 0)) (je_var (pv 2)))
theorem cal_check_stands_1 (T : Ft P w K mg cl) : Cal P w K mg base cl 2 "check_stands" [false] fn_check_stands [] := by
  obtain ⟨f, fd, F, g⟩ := T.d_check_stands
  have b : Binds K fd ["v"] [] := F.bindsN fun _ _ _ _ _ _ us hl => match us, hl with | [_], _ => rfl
  refine ⟨f, fd, ["v"], [], [], ⟨def_okD (N := N_check_stands) F sc_check_stands rfl (fun cdv A outer s H E hr tk po => ?_), g, F.kp⟩, b, .nil, fun _ => .nil⟩
  refine (jss_cons ?_ ?_)
  · refine (js_if ?_ ?_ ?_)
    · refine (jt_not ?_)
      refine (jt_truth ?_ (fun _ => rfl))
      refine (je_callC (cal_is_whole_3 T) (hr.mono (by decide)) tk ?_)
      exact (ja_cons (je_var (pv 0)) (ja_cons je_int (ja_cons (je_gint T.i_MOST_STANDS) ja_nil)))
    · exact (jss_one (js_raiseC T.e_BadStands tk))
    exact jss_nil
  refine (jss_one ?_)
  exact (js_ret (je_var (pv 0)))
theorem cal_all_stands_1 (T : Ft P w K mg cl) : Cal P w K mg base cl 3 "all_stands" [false] fn_all_stands [] := by
  obtain ⟨f, fd, F, g⟩ := T.d_all_stands
  have b : Binds K fd ["v"] [] := F.bindsN fun _ _ _ _ _ _ us hl => match us, hl with | [_], _ => rfl
  refine ⟨f, fd, ["v"], [], [], ⟨def_okD (N := N_all_stands) F sc_all_stands rfl (fun cdv A outer s H E hr tk po => ?_), g, F.kp⟩, b, .nil, fun _ => .nil⟩
  refine (jss_one ?_)
  refine (js_ret ?_)
  refine (je_sub ?_ ?_)
  · refine (je_shl ?_ ?_)
    · exact je_int
    refine (je_callC (cal_check_stands_1 T) (hr.mono (by decide)) tk ?_)
    exact (ja_cons (je_var (pv 0)) ja_nil)
  exact je_int
theorem cal_check_lot_2 (T : Ft P w K mg cl) : Cal P w K mg base cl 4 "check_lot" [false, false] fn_check_lot [] := by
  obtain ⟨f, fd, F, g⟩ := T.d_check_lot
  have b : Binds K fd ["v", "lot"] [] := F.bindsN fun _ _ _ _ _ _ us hl => match us, hl with | [_, _], _ => rfl
  refine ⟨f, fd, ["v", "lot"], [], [], ⟨def_okD (N := N_check_lot) F sc_check_lot rfl (fun cdv A outer s H E hr tk po => ?_), g, F.kp⟩, b, .nil, fun _ => .nil⟩
  refine (jss_cons ?_ ?_)
  · refine (js_if ?_ ?_ ?_)
    · refine (jt_not ?_)
      refine (jt_truth ?_ (fun _ => rfl))
      refine (je_callC (cal_is_whole_3 T) (hr.mono (by decide)) tk ?_)
      refine (ja_cons ?_ (ja_cons ?_ (ja_cons ?_ ja_nil)))
      · exact (je_var (pv 1))
      · exact je_int
      refine (je_callC (cal_all_stands_1 T) (hr.mono (by decide)) tk ?_)
      exact (ja_cons (je_var (pv 0)) ja_nil)
    · exact (jss_one (js_raiseC T.e_BadLot tk))
    exact jss_nil
  refine (jss_one ?_)
  exact (js_ret (je_var (pv 1)))
theorem cal_check_row_2 (T : Ft P w K mg cl) : Cal P w K mg base cl 4 "check_row" [false, false] fn_check_row [] := by
  obtain ⟨f, fd, F, g⟩ := T.d_check_row
  have b : Binds K fd ["stands", "row"] [] := F.bindsN fun _ _ _ _ _ _ us hl => match us, hl with | [_, _], _ => rfl
  refine ⟨f, fd, ["stands", "row"], [], [], ⟨def_okD (N := N_check_row) F sc_check_row rfl (fun cdv A outer s H E hr tk po => ?_), g, F.kp⟩, b, .nil, fun _ => .nil⟩
  refine (jss_cons ?_ ?_)
  · refine (js_set (i := 2) sc_check_row.nd rfl (by first | exact .inl rfl | exact .inr rfl) ?_)
    refine (je_callC (cal_all_stands_1 T) (hr.mono (by decide)) tk ?_)
    exact (ja_cons (je_var (pv 0)) ja_nil)
  refine (jss_cons ?_ ?_)
  · refine (js_if ?_ ?_ ?_)
    · refine (JW.jt ?_)
      refine (jw_or ?_ (jw_or1 ?_))
      · refine (jt_not ?_)
        refine (jt_truth ?_ (fun _ => rfl))
        refine (je_callC (cal_is_sequence_1 T) (hr.mono (by decide)) tk ?_)
        exact (ja_cons (je_var (pv 1)) ja_nil)
      exact (jt_cm (cr_ne (hu64 hr)) (je_lenV rfl T.n_len (pv 1)) (je_var (pv 0)))
    · exact (jss_one js_st)
    exact jss_nil
  refine (jss_cons ?_ ?_)
  · refine (js_for (ts := [3, 4]) po rfl ?_ ?_ ?_)
    · exact (ji_en rfl T.n_enumerate (je_var (pv 1)))
    · exact (jg_names (is := [3, 4]) (pg_tup rfl (pgs_cons (pg_name (i := 3) sc_check_row.nd rfl (by first | exact .inl rfl | exact .inr rfl)) (pgs_cons (pg_name (i := 4) sc_check_row.nd rfl (by first | exact .inl rfl | exact .inr rfl)) pgs_nil))) (pg_lst rfl (pgs_cons (pg_name (i := 3) sc_check_row.nd rfl (by first | exact .inl rfl | exact .inr rfl)) (pgs_cons (pg_name (i := 4) sc_check_row.nd rfl (by first | exact .inl rfl | exact .inr rfl)) pgs_nil))))
    refine (jss_one ?_)
    refine (js_if ?_ ?_ ?_)
    · refine (jt_not ?_)
      refine (jt_truth ?_ (fun _ => rfl))
      refine (je_callC (cal_is_whole_3 T) (hr.mono (by decide)) tk ?_)
      exact (ja_cons (je_var (pv 4)) (ja_cons je_int (ja_cons (je_var (pv 2)) ja_nil)))
    · exact (jss_one js_st)
    exact jss_nil
  refine (jss_one ?_)
  refine (js_ret ?_)
  refine (je_calltuple rfl T.n_tuple ?_)
  exact (ja_cons (je_var (pv 1)) ja_nil)
theorem cal_next_lot_2 (T : Ft P w K mg cl) : Cal P w K mg base cl 1 "next_lot" [false, false] fn_next_lot [] := by
  obtain ⟨f, fd, F, g⟩ := T.d_next_lot
  have b : Binds K fd ["row", "lot"] [] := F.bindsN fun _ _ _ _ _ _ us hl => match us, hl with | [_, _], _ => rfl
  refine ⟨f, fd, ["row", "lot"], [], [], ⟨def_okD (N := N_next_lot) F sc_next_lot rfl (fun cdv A outer s H E hr tk po => ?_), g, F.kp⟩, b, .nil, fun _ => .nil⟩
  refine (jss_cons ?_ ?_)
  · exact (js_set (i := 2) sc_next_lot.nd rfl (by first | exact .inl rfl | exact .inr rfl) je_int)
  refine (jss_cons ?_ ?_)
  · refine (js_for (ts := [3, 4]) po rfl ?_ ?_ ?_)
    · exact (ji_en rfl T.n_enumerate (je_var (pv 0)))
    · exact (jg_names (is := [3, 4]) (pg_tup rfl (pgs_cons (pg_name (i := 3) sc_next_lot.nd rfl (by first | exact .inl rfl | exact .inr rfl)) (pgs_cons (pg_name (i := 4) sc_next_lot.nd rfl (by first | exact .inl rfl | exact .inr rfl)) pgs_nil))) (pg_lst rfl (pgs_cons (pg_name (i := 3) sc_next_lot.nd rfl (by first | exact .inl rfl | exact .inr rfl)) (pgs_cons (pg_name (i := 4) sc_next_lot.nd rfl (by first | exact .inl rfl | exact .inr rfl)) pgs_nil))))
    refine (jss_one ?_)
    refine (js_if ?_ ?_ ?_)
    · refine (jt_truth ?_ (fun _ => rfl))
      refine (je_band ?_ ?_)
      · exact (je_shr (je_var (pv 1)) (je_var (pv 3)))
      exact je_int
    · refine (jss_one ?_)
      exact (js_augOr (i := 2) sc_next_lot.nd rfl (by first | exact .inl rfl | exact .inr rfl) (je_var (pv 4)))
    exact jss_nil
  refine (jss_one ?_)
  exact (js_ret (je_var (pv 2)))
theorem cal_back_lot_2 (T : Ft P w K mg cl) : Cal P w K mg base cl 1 "back_lot" [false, false] fn_back_lot [] := by
  obtain ⟨f, fd, F, g⟩ := T.d_back_lot
  have b : Binds K fd ["row", "lot"] [] := F.bindsN fun _ _ _ _ _ _ us hl => match us, hl with | [_, _], _ => rfl
  refine ⟨f, fd, ["row", "lot"], [], [], ⟨def_okD (N := N_back_lot) F sc_back_lot rfl (fun cdv A outer s H E hr tk po => ?_), g, F.kp⟩, b, .nil, fun _ => .nil⟩
  refine (jss_cons ?_ ?_)
  · exact (js_set (i := 2) sc_back_lot.nd rfl (by first | exact .inl rfl | exact .inr rfl) je_int)
  refine (jss_cons ?_ ?_)
  · refine (js_for (ts := [3, 4]) po rfl ?_ ?_ ?_)
    · exact (ji_en rfl T.n_enumerate (je_var (pv 0)))
    · exact (jg_names (is := [3, 4]) (pg_tup rfl (pgs_cons (pg_name (i := 3) sc_back_lot.nd rfl (by first | exact .inl rfl | exact .inr rfl)) (pgs_cons (pg_name (i := 4) sc_back_lot.nd rfl (by first | exact .inl rfl | exact .inr rfl)) pgs_nil))) (pg_lst rfl (pgs_cons (pg_name (i := 3) sc_back_lot.nd rfl (by first | exact .inl rfl | exact .inr rfl)) (pgs_cons (pg_name (i := 4) sc_back_lot.nd rfl (by first | exact .inl rfl | exact .inr rfl)) pgs_nil))))
    refine (jss_one ?_)
    refine (js_if ?_ ?_ ?_)
    · refine (jt_cm (cr_eq (hu64 hr)) ?_ ?_)
      · refine (je_band ?_ ?_)
        · exact (je_var (pv 4))
        exact (je_inv (je_var (pv 1)))
      exact je_int
    · refine (jss_one ?_)
      refine (js_augOr (i := 2) sc_back_lot.nd rfl (by first | exact .inl rfl | exact .inr rfl) ?_)
      exact (je_shl je_int (je_var (pv 3)))
    exact jss_nil
  refine (jss_one ?_)
  exact (js_ret (je_var (pv 2)))
theorem calM_Glasses_rounded (T : Ft P w K mg cl) : CalM P w K mg base cl 5 "Glasses" "rounded" [false, false] fn_Glasses_rounded [] := by
  obtain ⟨C, f, fd, e1, e2, e3, F⟩ := T.d_Glasses_rounded
  have b : Binds K fd ["self", "lot"] [] := F.bindsN fun _ _ _ _ _ _ us hl => match us, hl with | [_, _], _ => rfl
  refine ⟨C, f, fd, ["self", "lot"], [], [], e1, e2, e3, def_okD (N := N_Glasses_rounded) F sc_Glasses_rounded rfl (fun cdv A outer s H E hr tk po => ?_), b, .nil, fun _ => .nil⟩
  refine (jss_cons ?_ ?_)
  · refine (js_expr ?_)
    refine (je_callC (cal_check_lot_2 T) (hr.mono (by decide)) tk ?_)
    refine (ja_cons ?_ (ja_cons ?_ ja_nil))
    · exact (je_fld T.a_stands (je_var (pv 0)))
    exact (je_var (pv 1))
  refine (jss_one ?_)
  refine (js_ret ?_)
  refine (je_min rfl rfl T.n_min ?_)
  refine (ja_cons (JF.je ?_) ja_nil)
  refine (jf_comp (own := [("member", 2)]) (ts := [2]) rfl sc_Glasses_rounded.nd ?_ (blkOk_by (N := N_Glasses_rounded) (sc := (defScope s_Glasses_rounded)) (by decide +kernel)) (by decide) (fun _ _ _ _ _ => ?_) (fun _ _ _ _ _ => (jts_one ?_)) (fun _ _ _ _ _ => ?_))
  · refine (ji_seq ?_)
    exact (je_fld T.a_members (je_var (pv 0)))
  · exact (jg_name (pg_name (i := 2) sc_Glasses_rounded.nd rfl (by first | exact .inl rfl | exact .inr rfl)))
  · refine (jt_cm (cr_eq (hu64 hr)) ?_ ?_)
    · refine (je_band ?_ ?_)
      · exact (je_var (pv 1))
      exact (je_inv (je_var (pv 2)))
    exact je_int
  exact (je_var (pv 2))
theorem cal__is_sharp_3 (T : Ft P w K mg cl) : Cal P w K mg base cl 6 "_is_sharp" [false, false, false] fn__is_sharp [] := by
  obtain ⟨f, fd, F, g⟩ := T.d__is_sharp
  have b : Binds K fd ["glasses", "row", "lot"] [] := F.bindsN fun _ _ _ _ _ _ us hl => match us, hl with | [_, _, _], _ => rfl
  refine ⟨f, fd, ["glasses", "row", "lot"], [], [], ⟨def_okD (N := N__is_sharp) F sc__is_sharp rfl (fun cdv A outer s H E hr tk po => ?_), g, F.kp⟩, b, .nil, fun _ => .nil⟩
  refine (jss_cons ?_ ?_)
  · refine (js_set (i := 3) sc__is_sharp.nd rfl (by first | exact .inl rfl | exact .inr rfl) ?_)
    refine (je_meth (calM_Glasses_rounded T) (hr.mono (by decide)) tk ?_ ?_)
    · exact (je_var (pv 0))
    refine (ja_cons ?_ ja_nil)
    refine (je_callC (cal_next_lot_2 T) (hr.mono (by decide)) tk ?_)
    exact (ja_cons (je_var (pv 1)) (ja_cons (je_var (pv 2)) ja_nil))
  refine (jss_one ?_)
  refine (js_ret ?_)
  refine (je_cm (cr_eq (hu64 hr)) ?_ ?_)
  · exact (je_var (pv 3))
  refine (je_meth (calM_Glasses_rounded T) (hr.mono (by decide)) tk ?_ ?_)
  · exact (je_var (pv 0))
  refine (ja_cons ?_ ja_nil)
  refine (je_callC (cal_next_lot_2 T) (hr.mono (by decide)) tk ?_)
  refine (ja_cons ?_ (ja_cons ?_ ja_nil))
  · exact (je_var (pv 1))
  refine (je_meth (calM_Glasses_rounded T) (hr.mono (by decide)) tk ?_ ?_)
  · exact (je_var (pv 0))
  exact (ja_cons (je_var (pv 2)) ja_nil)
theorem cal_sharp_at_3 (T : Ft P w K mg cl) : Cal P w K mg base cl 7 "sharp_at" [false, false, false] fn_sharp_at [] := by
  obtain ⟨f, fd, F, g⟩ := T.d_sharp_at
  have b : Binds K fd ["glasses", "row", "lot"] [] := F.bindsN fun _ _ _ _ _ _ us hl => match us, hl with | [_, _, _], _ => rfl
  refine ⟨f, fd, ["glasses", "row", "lot"], [], [], ⟨def_okD (N := N_sharp_at) F sc_sharp_at rfl (fun cdv A outer s H E hr tk po => ?_), g, F.kp⟩, b, .nil, fun _ => .nil⟩
  refine (jss_cons ?_ ?_)
  · refine (js_set (i := 3) sc_sharp_at.nd rfl (by first | exact .inl rfl | exact .inr rfl) ?_)
    refine (je_callC (cal_check_row_2 T) (hr.mono (by decide)) tk ?_)
    refine (ja_cons ?_ (ja_cons ?_ ja_nil))
    · exact (je_fld T.a_stands (je_var (pv 0)))
    exact (je_var (pv 1))
  refine (jss_cons ?_ ?_)
  · refine (js_expr ?_)
    refine (je_callC (cal_check_lot_2 T) (hr.mono (by decide)) tk ?_)
    refine (ja_cons ?_ (ja_cons ?_ ja_nil))
    · exact (je_fld T.a_stands (je_var (pv 0)))
    exact (je_var (pv 2))
  refine (jss_one ?_)
  refine (js_ret ?_)
  refine (je_callC (cal__is_sharp_3 T) (hr.mono (by decide)) tk ?_)
  exact (ja_cons (je_var (pv 0)) (ja_cons (je_var (pv 3)) (ja_cons (je_var (pv 2)) ja_nil)))
theorem cal_blurring_lot_3 (T : Ft P w K mg cl) : Cal P w K mg base cl 6 "blurring_lot" [false, false, false] fn_blurring_lot [] := by
  obtain ⟨f, fd, F, g⟩ := T.d_blurring_lot
  have b : Binds K fd ["glasses", "row", "lot"] [] := F.bindsN fun _ _ _ _ _ _ us hl => match us, hl with | [_, _, _], _ => rfl
  refine ⟨f, fd, ["glasses", "row", "lot"], [], [], ⟨def_okD (N := N_blurring_lot) F sc_blurring_lot rfl (fun cdv A outer s H E hr tk po => ?_), g, F.kp⟩, b, .nil, fun _ => .nil⟩
  refine (jss_cons ?_ ?_)
  · refine (js_set (i := 3) sc_blurring_lot.nd rfl (by first | exact .inl rfl | exact .inr rfl) ?_)
    refine (je_callC (cal_check_row_2 T) (hr.mono (by decide)) tk ?_)
    refine (ja_cons ?_ (ja_cons ?_ ja_nil))
    · exact (je_fld T.a_stands (je_var (pv 0)))
    exact (je_var (pv 1))
  refine (jss_cons ?_ ?_)
  · refine (js_expr ?_)
    refine (je_callC (cal_check_lot_2 T) (hr.mono (by decide)) tk ?_)
    refine (ja_cons ?_ (ja_cons ?_ ja_nil))
    · exact (je_fld T.a_stands (je_var (pv 0)))
    exact (je_var (pv 2))
  refine (jss_cons ?_ ?_)
  · refine (js_set (i := 4) sc_blurring_lot.nd rfl (by first | exact .inl rfl | exact .inr rfl) ?_)
    refine (je_meth (calM_Glasses_rounded T) (hr.mono (by decide)) tk ?_ ?_)
    · exact (je_var (pv 0))
    refine (ja_cons ?_ ja_nil)
    refine (je_callC (cal_next_lot_2 T) (hr.mono (by decide)) tk ?_)
    exact (ja_cons (je_var (pv 3)) (ja_cons (je_var (pv 2)) ja_nil))
  refine (jss_one ?_)
  refine (js_ret ?_)
  refine (je_band ?_ ?_)
  · refine (je_meth (calM_Glasses_rounded T) (hr.mono (by decide)) tk ?_ ?_)
    · exact (je_var (pv 0))
    exact (ja_cons (je_var (pv 2)) ja_nil)
  refine (je_inv ?_)
  refine (je_callC (cal_back_lot_2 T) (hr.mono (by decide)) tk ?_)
  exact (ja_cons (je_var (pv 3)) (ja_cons (je_var (pv 4)) ja_nil))
theorem cal__check_ascending_2 (T : Ft P w K mg cl) : Cal P w K mg base cl 2 "_check_ascending" [false, false] fn__check_ascending [] := by
  obtain ⟨f, fd, F, g⟩ := T.d__check_ascending
  have b : Binds K fd ["every", "members"] [] := F.bindsN fun _ _ _ _ _ _ us hl => match us, hl with | [_, _], _ => rfl
  refine ⟨f, fd, ["every", "members"], [], [], ⟨def_okD (N := N__check_ascending) F sc__check_ascending rfl (fun cdv A outer s H E hr tk po => ?_), g, F.kp⟩, b, .nil, fun _ => .nil⟩
  refine (jss_cons ?_ ?_)
  · refine (js_set (i := 2) sc__check_ascending.nd rfl (by first | exact .inl rfl | exact .inr rfl) ?_)
    exact (je_neg je_int)
  refine (jss_one ?_)
  refine (js_for (ts := [3, 4]) po rfl ?_ ?_ ?_)
  · exact (ji_en rfl T.n_enumerate (je_var (pv 1)))
  · exact (jg_names (is := [3, 4]) (pg_tup rfl (pgs_cons (pg_name (i := 3) sc__check_ascending.nd rfl (by first | exact .inl rfl | exact .inr rfl)) (pgs_cons (pg_name (i := 4) sc__check_ascending.nd rfl (by first | exact .inl rfl | exact .inr rfl)) pgs_nil))) (pg_lst rfl (pgs_cons (pg_name (i := 3) sc__check_ascending.nd rfl (by first | exact .inl rfl | exact .inr rfl)) (pgs_cons (pg_name (i := 4) sc__check_ascending.nd rfl (by first | exact .inl rfl | exact .inr rfl)) pgs_nil))))
  refine (jss_cons ?_ ?_)
  · refine (js_if ?_ ?_ ?_)
    · refine (jt_not ?_)
      refine (jt_truth ?_ (fun _ => rfl))
      refine (je_callC (cal_is_whole_3 T) (hr.mono (by decide)) tk ?_)
      exact (ja_cons (je_var (pv 4)) (ja_cons je_int (ja_cons (je_var (pv 0)) ja_nil)))
    · exact (jss_one js_st)
    exact jss_nil
  refine (jss_cons ?_ ?_)
  · refine (js_if ?_ ?_ ?_)
    · exact (jt_cm cr_le (je_var (pv 4)) (je_var (pv 2)))
    · exact (jss_one js_st)
    exact jss_nil
  refine (jss_one ?_)
  exact (js_set (i := 2) sc__check_ascending.nd rfl (by first | exact .inl rfl | exact .inr rfl) (je_var (pv 4)))
theorem cal__check_meets_1 (T : Ft P w K mg cl) : Cal P w K mg base cl 1 "_check_meets" [false] fn__check_meets [] := by
  obtain ⟨f, fd, F, g⟩ := T.d__check_meets
  have b : Binds K fd ["members"] [] := F.bindsN fun _ _ _ _ _ _ us hl => match us, hl with | [_], _ => rfl
  refine ⟨f, fd, ["members"], [], [], ⟨def_okD (N := N__check_meets) F sc__check_meets rfl (fun cdv A outer s H E hr tk po => ?_), g, F.kp⟩, b, .nil, fun _ => .nil⟩
  refine (jss_cons ?_ ?_)
  · refine (js_set (i := 1) sc__check_meets.nd rfl (by first | exact .inl rfl | exact .inr rfl) ?_)
    refine (je_set T.cp T.cw rfl rfl T.n_set ?_)
    exact (ja_cons (je_var (pv 0)) ja_nil)
  refine (jss_one ?_)
  refine (js_for (ts := [2, 3]) po rfl ?_ ?_ ?_)
  · exact (ji_en rfl T.n_enumerate (je_var (pv 0)))
  · exact (jg_names (is := [2, 3]) (pg_tup rfl (pgs_cons (pg_name (i := 2) sc__check_meets.nd rfl (by first | exact .inl rfl | exact .inr rfl)) (pgs_cons (pg_name (i := 3) sc__check_meets.nd rfl (by first | exact .inl rfl | exact .inr rfl)) pgs_nil))) (pg_lst rfl (pgs_cons (pg_name (i := 2) sc__check_meets.nd rfl (by first | exact .inl rfl | exact .inr rfl)) (pgs_cons (pg_name (i := 3) sc__check_meets.nd rfl (by first | exact .inl rfl | exact .inr rfl)) pgs_nil))))
  refine (jss_one ?_)
  refine (js_for (ts := [4]) po rfl ?_ ?_ ?_)
  · refine (ji_range2 rfl T.n_range ?_ ?_)
    · exact (je_add (je_var (pv 2)) je_int)
    exact (je_lenV rfl T.n_len (pv 0))
  · exact (jg_name (pg_name (i := 4) sc__check_meets.nd rfl (by first | exact .inl rfl | exact .inr rfl)))
  refine (jss_one ?_)
  refine (js_if ?_ ?_ ?_)
  · refine (jt_cm (cr_notinS T.cp T.cw) ?_ ?_)
    · refine (je_band ?_ ?_)
      · exact (je_var (pv 3))
      exact (je_ixV (pv 0) (je_var (pv 4)))
    exact (je_var (pv 1))
  · exact (jss_one js_st)
  exact jss_nil
theorem cal__checked_members_2 (T : Ft P w K mg cl) : Cal P w K mg base cl 4 "_checked_members" [false, false] fn__checked_members [] := by
  obtain ⟨f, fd, F, g⟩ := T.d__checked_members
  have b : Binds K fd ["stands", "members"] [] := F.bindsN fun _ _ _ _ _ _ us hl => match us, hl with | [_, _], _ => rfl
  refine ⟨f, fd, ["stands", "members"], [], [], ⟨def_okD (N := N__checked_members) F sc__checked_members rfl (fun cdv A outer s H E hr tk po => ?_), g, F.kp⟩, b, .nil, fun _ => .nil⟩
  refine (jss_cons ?_ ?_)
  · refine (js_if ?_ ?_ ?_)
    · refine (jt_not ?_)
      refine (jt_truth ?_ (fun _ => rfl))
      refine (je_callC (cal_is_whole_3 T) (hr.mono (by decide)) tk ?_)
      exact (ja_cons (je_var (pv 0)) (ja_cons je_int (ja_cons (je_gint T.i_MOST_STANDS) ja_nil)))
    · exact (jss_one js_st)
    exact jss_nil
  refine (jss_cons ?_ ?_)
  · refine (js_if ?_ ?_ ?_)
    · refine (JW.jt ?_)
      refine (jw_or ?_ (jw_or1 ?_))
      · refine (jt_not ?_)
        refine (jt_truth ?_ (fun _ => rfl))
        refine (je_callC (cal_is_sequence_1 T) (hr.mono (by decide)) tk ?_)
        exact (ja_cons (je_var (pv 1)) ja_nil)
      exact (jt_cm (cr_eq (hu64 hr)) (je_lenV rfl T.n_len (pv 1)) je_int)
    · exact (jss_one js_st)
    exact jss_nil
  refine (jss_cons ?_ ?_)
  · refine (js_set (i := 2) sc__checked_members.nd rfl (by first | exact .inl rfl | exact .inr rfl) ?_)
    refine (je_callC (cal_all_stands_1 T) (hr.mono (by decide)) tk ?_)
    exact (ja_cons (je_var (pv 0)) ja_nil)
  refine (jss_cons ?_ ?_)
  · refine (js_expr ?_)
    refine (je_callC (cal__check_ascending_2 T) (hr.mono (by decide)) tk ?_)
    exact (ja_cons (je_var (pv 2)) (ja_cons (je_var (pv 1)) ja_nil))
  refine (jss_cons ?_ ?_)
  · refine (js_if ?_ ?_ ?_)
    · refine (jt_cm (cr_ne (hu64 hr)) ?_ ?_)
      · refine (je_ixV (pv 1) ?_)
        exact (je_neg je_int)
      exact (je_var (pv 2))
    · exact (jss_one js_st)
    exact jss_nil
  refine (jss_cons ?_ ?_)
  · refine (js_expr ?_)
    refine (je_callC (cal__check_meets_1 T) (hr.mono (by decide)) tk ?_)
    exact (ja_cons (je_var (pv 1)) ja_nil)
  refine (jss_one ?_)
  refine (js_ret ?_)
  refine (je_calltuple rfl T.n_tuple ?_)
  exact (ja_cons (je_var (pv 1)) ja_nil)
theorem calK_Glasses_init (T : Ft P w K mg cl) : CalK P w K mg base cl 5 "Glasses" [true, false, false] fn_Glasses_init [] := by
  obtain ⟨C, f, fd, e1, e2, e3, F⟩ := T.d_Glasses_init
  have b : Binds K fd ["self", "stands", "members"] [] := F.bindsN fun _ _ _ _ _ _ us hl => match us, hl with | [_, _, _], _ => rfl
  refine ⟨C, f, fd, ["self", "stands", "members"], [], [], e1, e2, e3, def_okD (N := N_Glasses_init) F sc_Glasses_init rfl (fun cdv A outer s H E hr tk po => ?_), b, .nil, fun _ => .nil⟩
  refine (jss_cons ?_ ?_)
  · refine (js_set (i := 3) sc_Glasses_init.nd rfl (by first | exact .inl rfl | exact .inr rfl) ?_)
    refine (je_callC (cal__checked_members_2 T) (hr.mono (by decide)) tk ?_)
    exact (ja_cons (je_var (pv 1)) (ja_cons (je_var (pv 2)) ja_nil))
  refine (jss_cons ?_ ?_)
  · exact (js_putF T.a_stands (pv 0) (je_var (pv 1)))
  refine (jss_one ?_)
  exact (js_putF T.a_members (pv 0) (je_var (pv 3)))
theorem cal__law_hand_1 (T : Ft P w K mg cl) : Cal P w K mg base cl 1 "_law_hand" [false] fn__law_hand [] := by
  obtain ⟨f, fd, F, g⟩ := T.d__law_hand
  have b : Binds K fd ["_law_script"] [] := F.bindsN fun _ _ _ _ _ _ us hl => match us, hl with | [_], _ => rfl
  refine ⟨f, fd, ["_law_script"], [], [], ⟨def_okD (N := N__law_hand) F sc__law_hand rfl (fun cdv A outer s H E hr tk po => ?_), g, F.kp⟩, b, .nil, fun _ => .nil⟩
  refine (jss_cons ?_ ?_)
  · refine (js_set (i := 1) sc__law_hand.nd rfl (by first | exact .inl rfl | exact .inr rfl) ?_)
    exact (je_add (je_lenV rfl T.n_len (pv 0)) je_int)
  refine (jss_cons ?_ ?_)
  · refine (js_setO (i := 2) sc__law_hand.nd rfl (by first | exact .inl rfl | exact .inr rfl) ?_)
    exact (jf_lst ja_nil)
  refine (jss_cons ?_ ?_)
  · refine (js_for (ts := [3]) po rfl ?_ ?_ ?_)
    · exact (ji_seq (je_var (pv 0)))
    · exact (jg_name (pg_name (i := 3) sc__law_hand.nd rfl (by first | exact .inl rfl | exact .inr rfl)))
    refine (jss_cons ?_ ?_)
    · refine (js_set (i := 1) sc__law_hand.nd rfl (by first | exact .inl rfl | exact .inr rfl) ?_)
      refine (je_mod ?_ ?_)
      · refine (je_callint rfl T.n_int ?_)
        refine (ja_cons ?_ ja_nil)
        refine (je_add ?_ ?_)
        · exact (je_mul (je_var (pv 1)) je_int)
        refine (je_callint rfl T.n_int ?_)
        exact (ja_cons (je_var (pv 3)) ja_nil)
      exact je_int
    refine (jss_one ?_)
    refine (js_app (pv 2) ?_)
    refine (je_abs rfl T.n_abs ?_)
    refine (ja_cons ?_ ja_nil)
    refine (je_callint rfl T.n_int ?_)
    exact (ja_cons (je_var (pv 3)) ja_nil)
  refine (jss_one ?_)
  refine (js_retO ?_)
  refine (jf_lst ?_)
  exact (ja_cons (je_var (pv 2)) (ja_cons je_int (ja_cons je_int (ja_cons (je_var (pv 1)) ja_nil))))
theorem cal__law_mixed_2 (T : Ft P w K mg cl) : Cal P w K mg base cl 1 "_law_mixed" [false, false] fn__law_mixed [] := by
  obtain ⟨f, fd, F, g⟩ := T.d__law_mixed
  have b : Binds K fd ["_law_number", "_law_turn"] [] := F.bindsN fun _ _ _ _ _ _ us hl => match us, hl with | [_, _], _ => rfl
  refine ⟨f, fd, ["_law_number", "_law_turn"], [], [], ⟨def_okD (N := N__law_mixed) F sc__law_mixed rfl (fun cdv A outer s H E hr tk po => ?_), g, F.kp⟩, b, .nil, fun _ => .nil⟩
  refine (jss_cons ?_ ?_)
  · refine (js_set (i := 2) sc__law_mixed.nd rfl (by first | exact .inl rfl | exact .inr rfl) ?_)
    refine (je_mod ?_ ?_)
    · refine (je_callint rfl T.n_int ?_)
      refine (ja_cons ?_ ja_nil)
      refine (je_add ?_ ?_)
      · refine (je_add ?_ ?_)
        · exact (je_mul (je_var (pv 0)) je_int)
        exact (je_mul (je_var (pv 1)) je_int)
      exact je_int
    exact je_int
  refine (jss_cons ?_ ?_)
  · refine (js_set (i := 3) sc__law_mixed.nd rfl (by first | exact .inl rfl | exact .inr rfl) ?_)
    refine (je_mod ?_ ?_)
    · refine (je_callint rfl T.n_int ?_)
      refine (ja_cons ?_ ja_nil)
      refine (je_add ?_ ?_)
      · refine (je_add ?_ ?_)
        · exact (je_mul (je_var (pv 2)) (je_var (pv 2)))
        exact (je_mul (je_var (pv 1)) je_int)
      exact (je_div (je_var (pv 2)) je_int)
    exact je_int
  refine (jss_one ?_)
  refine (js_ret ?_)
  refine (je_div ?_ ?_)
  · refine (je_callint rfl T.n_int ?_)
    refine (ja_cons ?_ ja_nil)
    refine (je_mod ?_ ?_)
    · refine (je_callint rfl T.n_int ?_)
      refine (ja_cons ?_ ja_nil)
      refine (je_add ?_ ?_)
      · exact (je_mul (je_var (pv 3)) je_int)
      exact (je_div (je_var (pv 2)) je_int)
    exact je_int
  exact je_int
theorem cal__law_take_2 (T : Ft P w K mg cl) : Cal P w K mg base cl 2 "_law_take" [true, false] fn__law_take [] := by
  obtain ⟨f, fd, F, g⟩ := T.d__law_take
  have b : Binds K fd ["_law_hand_here", "_law_many"] [] := F.bindsN fun _ _ _ _ _ _ us hl => match us, hl with | [_, _], _ => rfl
  refine ⟨f, fd, ["_law_hand_here", "_law_many"], [], [], ⟨def_okD (N := N__law_take) F sc__law_take rfl (fun cdv A outer s H E hr tk po => ?_), g, F.kp⟩, b, .nil, fun _ => .nil⟩
  refine (jss_cons ?_ ?_)
  · refine (js_if ?_ ?_ ?_)
    · refine (JW.jt ?_)
      refine (jw_and ?_ (jw_and1 ?_))
      · refine (jt_cm (cr_eq (hu64 hr)) ?_ ?_)
        · exact (je_ixV (pv 0) je_int)
        exact je_int
      refine (jt_cm cr_lt ?_ ?_)
      · exact (je_ixV (pv 0) je_int)
      refine (je_len rfl T.n_len ?_)
      refine (ja_cons ?_ ja_nil)
      exact (je_ixV (pv 0) je_int)
    · refine (jss_cons ?_ ?_)
      · refine (js_set (i := 2) sc__law_take.nd rfl (by first | exact .inl rfl | exact .inr rfl) ?_)
        refine (je_ix ?_ ?_)
        · exact (je_ixV (pv 0) je_int)
        exact (je_ixV (pv 0) je_int)
      refine (jss_cons ?_ ?_)
      · refine (js_put (pv 0) ?_ ?_)
        · exact je_int
        refine (je_add ?_ ?_)
        · exact (je_ixV (pv 0) je_int)
        exact je_int
      refine (jss_cons ?_ ?_)
      · refine (js_if ?_ ?_ ?_)
        · refine (jt_cm cr_lt ?_ ?_)
          · exact (je_var (pv 2))
          exact (je_pow je_int je_int)
        · refine (jss_one ?_)
          refine (js_ret ?_)
          refine (je_mod ?_ ?_)
          · refine (je_callint rfl T.n_int ?_)
            refine (ja_cons ?_ ja_nil)
            refine (je_callC (cal__law_mixed_2 T) (hr.mono (by decide)) tk ?_)
            refine (ja_cons ?_ (ja_cons ?_ ja_nil))
            · refine (je_mod ?_ ?_)
              · refine (je_callint rfl T.n_int ?_)
                exact (ja_cons (je_var (pv 2)) ja_nil)
              exact je_int
            exact (je_ixV (pv 0) je_int)
          exact (je_var (pv 1))
        exact jss_nil
      refine (jss_one ?_)
      exact (js_put (pv 0) je_int (je_var (pv 2)))
    exact jss_nil
  refine (jss_cons ?_ ?_)
  · refine (js_if ?_ ?_ ?_)
    · refine (jt_cm cr_gt ?_ ?_)
      · exact (je_ixV (pv 0) je_int)
      exact je_int
    · refine (jss_cons ?_ ?_)
      · refine (js_set (i := 3) sc__law_take.nd rfl (by first | exact .inl rfl | exact .inr rfl) ?_)
        exact (je_ixV (pv 0) je_int)
      refine (jss_cons ?_ ?_)
      · refine (js_put (pv 0) ?_ ?_)
        · exact je_int
        refine (je_div ?_ ?_)
        · refine (je_callint rfl T.n_int ?_)
          exact (ja_cons (je_var (pv 3)) ja_nil)
        exact (je_var (pv 1))
      refine (jss_one ?_)
      refine (js_ret ?_)
      refine (je_mod ?_ ?_)
      · refine (je_callint rfl T.n_int ?_)
        exact (ja_cons (je_var (pv 3)) ja_nil)
      exact (je_var (pv 1))
    exact jss_nil
  refine (jss_cons ?_ ?_)
  · refine (js_put (pv 0) ?_ ?_)
    · exact je_int
    refine (je_mod ?_ ?_)
    · refine (je_callint rfl T.n_int ?_)
      refine (ja_cons ?_ ja_nil)
      refine (je_add ?_ ?_)
      · exact (je_ixV (pv 0) je_int)
      exact je_int
    exact je_int
  refine (jss_one ?_)
  refine (js_ret ?_)
  refine (je_mod ?_ ?_)
  · refine (je_callint rfl T.n_int ?_)
    refine (ja_cons ?_ ja_nil)
    refine (je_callC (cal__law_mixed_2 T) (hr.mono (by decide)) tk ?_)
    refine (ja_cons ?_ (ja_cons ?_ ja_nil))
    · exact (je_ixV (pv 0) je_int)
    exact (je_ixV (pv 0) je_int)
  exact (je_var (pv 1))
theorem cal__law_stands_1 (T : Ft P w K mg cl) : Cal P w K mg base cl 3 "_law_stands" [true] fn__law_stands [] := by
  obtain ⟨f, fd, F, g⟩ := T.d__law_stands
  have b : Binds K fd ["_law_hand_here"] [] := F.bindsN fun _ _ _ _ _ _ us hl => match us, hl with | [_], _ => rfl
  refine ⟨f, fd, ["_law_hand_here"], [], [], ⟨def_okD (N := N__law_stands) F sc__law_stands rfl (fun cdv A outer s H E hr tk po => ?_), g, F.kp⟩, b, .nil, fun _ => .nil⟩
  refine (jss_one ?_)
  refine (js_ret ?_)
  refine (je_ix ?_ ?_)
  · refine (je_tupC (ds := [((.int 3), (.int 3)), ((.int 4), (.int 4)), ((.int 3), (.int 3)), ((.int 4), (.int 4)), ((.int 3), (.int 3)), ((.int 4), (.int 4)), ((.int 3), (.int 3)), ((.int 4), (.int 4)), ((.int 2), (.int 2)), ((.int 2), (.int 2)), ((.int 5), (.int 5)), ((.int 5), (.int 5)), ((.int 6), (.int 6)), ((.int 6), (.int 6)), ((.int 3), (.int 3)), ((.int 1), (.int 1))]) ?_)
    exact rfl
  refine (je_callC (cal__law_take_2 T) (hr.mono (by decide)) tk ?_)
  exact (ja_refA (pv 0) (ja_cons je_int ja_nil))
theorem cal__law_every_1 (T : Ft P w K mg cl) : Cal P w K mg base cl 1 "_law_every" [false] fn__law_every [] := by
  obtain ⟨f, fd, F, g⟩ := T.d__law_every
  have b : Binds K fd ["_law_v"] [] := F.bindsN fun _ _ _ _ _ _ us hl => match us, hl with | [_], _ => rfl
  refine ⟨f, fd, ["_law_v"], [], [], ⟨def_okD (N := N__law_every) F sc__law_every rfl (fun cdv A outer s H E hr tk po => ?_), g, F.kp⟩, b, .nil, fun _ => .nil⟩
  refine (jss_one ?_)
  refine (js_ret ?_)
  refine (je_sub ?_ ?_)
  · exact (je_shl je_int (je_var (pv 0)))
  exact je_int
theorem cal__law_within_2 (T : Ft P w K mg cl) : Cal P w K mg base cl 1 "_law_within" [false, false] fn__law_within [] := by
  obtain ⟨f, fd, F, g⟩ := T.d__law_within
  have b : Binds K fd ["_law_one", "_law_other"] [] := F.bindsN fun _ _ _ _ _ _ us hl => match us, hl with | [_, _], _ => rfl
  refine ⟨f, fd, ["_law_one", "_law_other"], [], [], ⟨def_okD (N := N__law_within) F sc__law_within rfl (fun cdv A outer s H E hr tk po => ?_), g, F.kp⟩, b, .nil, fun _ => .nil⟩
  refine (jss_one ?_)
  refine (js_ret ?_)
  refine (je_cm (cr_eq (hu64 hr)) ?_ ?_)
  · exact (je_band (je_var (pv 0)) (je_var (pv 1)))
  exact (je_var (pv 0))
theorem cal__law_met_2 (T : Ft P w K mg cl) : Cal P w K mg base cl 2 "_law_met" [false, false] fn__law_met [] := by
  obtain ⟨f, fd, F, g⟩ := T.d__law_met
  have b : Binds K fd ["_law_v", "_law_lots"] [] := F.bindsN fun _ _ _ _ _ _ us hl => match us, hl with | [_, _], _ => rfl
  refine ⟨f, fd, ["_law_v", "_law_lots"], [], [], ⟨def_okD (N := N__law_met) F sc__law_met rfl (fun cdv A outer s H E hr tk po => ?_), g, F.kp⟩, b, .nil, fun _ => .nil⟩
  refine (jss_cons ?_ ?_)
  · refine (js_setO (i := 2) sc__law_met.nd rfl (by first | exact .inl rfl | exact .inr rfl) ?_)
    refine (jf_dct1 ?_ ?_)
    · refine (je_callC (cal__law_every_1 T) (hr.mono (by decide)) tk ?_)
      exact (ja_cons (je_var (pv 0)) ja_nil)
    exact je_bl
  refine (jss_cons ?_ ?_)
  · refine (js_for (ts := [3]) po rfl ?_ ?_ ?_)
    · exact (ji_seq (je_var (pv 1)))
    · exact (jg_name (pg_name (i := 3) sc__law_met.nd rfl (by first | exact .inl rfl | exact .inr rfl)))
    refine (jss_one ?_)
    refine (js_for (ts := [4]) po rfl ?_ ?_ ?_)
    · exact (ji_seq (JF.je (jf_listKeys rfl (pv 2) rfl T.n_list)))
    · exact (jg_name (pg_name (i := 4) sc__law_met.nd rfl (by first | exact .inl rfl | exact .inr rfl)))
    refine (jss_one ?_)
    refine (js_putK (hu65 hr) (pv 2) ?_ ?_)
    · exact (je_band (je_var (pv 4)) (je_var (pv 3)))
    exact je_bl
  refine (jss_one ?_)
  refine (js_ret (JF.je ?_))
  refine (jf_sorted rfl T.n_sorted ?_)
  exact (ja_cons (JF.je (jf_listKeys rfl (pv 2) rfl T.n_list)) ja_nil)
theorem cal__law_members_2 (T : Ft P w K mg cl) : Cal P w K mg base cl 3 "_law_members" [true, false] fn__law_members [] := by
  obtain ⟨f, fd, F, g⟩ := T.d__law_members
  have b : Binds K fd ["_law_hand_here", "_law_v"] [] := F.bindsN fun _ _ _ _ _ _ us hl => match us, hl with | [_, _], _ => rfl
  refine ⟨f, fd, ["_law_hand_here", "_law_v"], [], [], ⟨def_okD (N := N__law_members) F sc__law_members rfl (fun cdv A outer s H E hr tk po => ?_), g, F.kp⟩, b, .nil, fun _ => .nil⟩
  refine (jss_cons ?_ ?_)
  · refine (js_set (i := 2) sc__law_members.nd rfl (by first | exact .inl rfl | exact .inr rfl) ?_)
    refine (je_callC (cal__law_take_2 T) (hr.mono (by decide)) tk ?_)
    exact (ja_refA (pv 0) (ja_cons je_int ja_nil))
  refine (jss_cons ?_ ?_)
  · refine (js_if ?_ ?_ ?_)
    · exact (jt_cm (cr_eq (hu64 hr)) (je_var (pv 2)) je_int)
    · refine (jss_one ?_)
      refine (js_ret (JF.je ?_))
      refine (jf_listRg rfl rfl T.n_list rfl T.n_range ?_)
      exact (je_shl je_int (je_var (pv 1)))
    exact jss_nil
  refine (jss_cons ?_ ?_)
  · refine (js_if ?_ ?_ ?_)
    · exact (jt_cm (cr_eq (hu64 hr)) (je_var (pv 2)) je_int)
    · refine (jss_one ?_)
      refine (js_ret (JF.je ?_))
      refine (jf_lst ?_)
      refine (ja_cons ?_ ja_nil)
      refine (je_callC (cal__law_every_1 T) (hr.mono (by decide)) tk ?_)
      exact (ja_cons (je_var (pv 1)) ja_nil)
    exact jss_nil
  refine (jss_cons ?_ ?_)
  · refine (js_lcO (own := [("_law_k", 4)]) (ts := [4]) (i := 3) rfl sc__law_members.nd rfl rfl (sw_true rfl rfl rfl (by decide +kernel)) ?_ (blkOk_by (N := N__law_members) (sc := (defScope s__law_members)) (by decide +kernel)) (by decide) (fun _ _ _ _ _ => ?_) (fun _ _ _ _ _ => jts_nil) (fun _ _ _ _ _ => ?_))
    · refine (ji_range1 rfl T.n_range ?_)
      refine (je_add ?_ ?_)
      · exact je_int
      refine (je_callC (cal__law_take_2 T) (hr.mono (by decide)) tk ?_)
      exact (ja_refA (pv 0) (ja_cons je_int ja_nil))
    · exact (jg_name (pg_name (i := 4) sc__law_members.nd rfl (by first | exact .inl rfl | exact .inr rfl)))
    refine (je_callC (cal__law_take_2 T) (hr.mono (by decide)) takes0 ?_)
    refine (ja_refA (pv 0) (ja_cons ?_ ja_nil))
    exact (je_shl je_int (je_var (pv 1)))
  refine (jss_cons ?_ ?_)
  · refine (js_if ?_ ?_ ?_)
    · refine (jt_truth ?_ (fun _ => rfl))
      refine (je_callC (cal__law_take_2 T) (hr.mono (by decide)) tk ?_)
      exact (ja_refA (pv 0) (ja_cons je_int ja_nil))
    · refine (jss_one ?_)
      exact (js_app (pv 3) je_int)
    exact jss_nil
  refine (jss_one ?_)
  refine (js_ret ?_)
  refine (je_callC (cal__law_met_2 T) (hr.mono (by decide)) tk ?_)
  exact (ja_cons (je_var (pv 1)) (ja_cons (je_var (pv 3)) ja_nil))
theorem cal__law_rounded_2 (T : Ft P w K mg cl) : Cal P w K mg base cl 1 "_law_rounded" [false, false] fn__law_rounded [] := by
  obtain ⟨f, fd, F, g⟩ := T.d__law_rounded
  have b : Binds K fd ["_law_members_here", "_law_lot"] [] := F.bindsN fun _ _ _ _ _ _ us hl => match us, hl with | [_, _], _ => rfl
  refine ⟨f, fd, ["_law_members_here", "_law_lot"], [], [], ⟨def_okD (N := N__law_rounded) F sc__law_rounded rfl (fun cdv A outer s H E hr tk po => ?_), g, F.kp⟩, b, .nil, fun _ => .nil⟩
  refine (jss_cons ?_ ?_)
  · refine (js_set (i := 2) sc__law_rounded.nd rfl (by first | exact .inl rfl | exact .inr rfl) ?_)
    refine (je_ixV (pv 0) ?_)
    exact (je_neg je_int)
  refine (jss_cons ?_ ?_)
  · refine (js_for (ts := [3]) po rfl ?_ ?_ ?_)
    · exact (ji_seq (je_var (pv 0)))
    · exact (jg_name (pg_name (i := 3) sc__law_rounded.nd rfl (by first | exact .inl rfl | exact .inr rfl)))
    refine (jss_one ?_)
    refine (js_if ?_ ?_ ?_)
    · refine (jt_cm (cr_eq (hu64 hr)) ?_ ?_)
      · exact (je_band (je_var (pv 1)) (je_var (pv 3)))
      exact (je_var (pv 1))
    · refine (jss_one ?_)
      refine (js_set (i := 2) sc__law_rounded.nd rfl (by first | exact .inl rfl | exact .inr rfl) ?_)
      exact (je_band (je_var (pv 2)) (je_var (pv 3)))
    exact jss_nil
  refine (jss_one ?_)
  exact (js_ret (je_var (pv 2)))
theorem cal__law_single_2 (T : Ft P w K mg cl) : Cal P w K mg base cl 3 "_law_single" [true, false] fn__law_single [] := by
  obtain ⟨f, fd, F, g⟩ := T.d__law_single
  have b : Binds K fd ["_law_hand_here", "_law_v"] [] := F.bindsN fun _ _ _ _ _ _ us hl => match us, hl with | [_, _], _ => rfl
  refine ⟨f, fd, ["_law_hand_here", "_law_v"], [], [], ⟨def_okD (N := N__law_single) F sc__law_single rfl (fun cdv A outer s H E hr tk po => ?_), g, F.kp⟩, b, .nil, fun _ => .nil⟩
  refine (jss_one ?_)
  refine (js_ret (JF.je ?_))
  refine (jf_comp (own := [("_law_s", 2)]) (ts := [2]) rfl sc__law_single.nd ?_ (blkOk_by (N := N__law_single) (sc := (defScope s__law_single)) (by decide +kernel)) (by decide) (fun _ _ _ _ _ => ?_) (fun _ _ _ _ _ => jts_nil) (fun _ _ _ _ _ => ?_))
  · exact (ji_range1 rfl T.n_range (je_var (pv 1)))
  · exact (jg_name (pg_name (i := 2) sc__law_single.nd rfl (by first | exact .inl rfl | exact .inr rfl)))
  refine (je_shl ?_ ?_)
  · exact je_int
  refine (je_callC (cal__law_take_2 T) (hr.mono (by decide)) takes0 ?_)
  exact (ja_refA (pv 0) (ja_cons (je_var (pv 1)) ja_nil))
theorem cal__law_drawn_row_2 (T : Ft P w K mg cl) : Cal P w K mg base cl 4 "_law_drawn_row" [true, false] fn__law_drawn_row [] := by
  obtain ⟨f, fd, F, g⟩ := T.d__law_drawn_row
  have b : Binds K fd ["_law_hand_here", "_law_v"] [] := F.bindsN fun _ _ _ _ _ _ us hl => match us, hl with | [_, _], _ => rfl
  refine ⟨f, fd, ["_law_hand_here", "_law_v"], [], [], ⟨def_okD (N := N__law_drawn_row) F sc__law_drawn_row rfl (fun cdv A outer s H E hr tk po => ?_), g, F.kp⟩, b, .nil, fun _ => .nil⟩
  refine (jss_cons ?_ ?_)
  · refine (js_set (i := 2) sc__law_drawn_row.nd rfl (by first | exact .inl rfl | exact .inr rfl) ?_)
    refine (je_callC (cal__law_take_2 T) (hr.mono (by decide)) tk ?_)
    exact (ja_refA (pv 0) (ja_cons je_int ja_nil))
  refine (jss_cons ?_ ?_)
  · refine (js_if ?_ ?_ ?_)
    · exact (jt_cm cr_lt (je_var (pv 2)) je_int)
    · refine (jss_one ?_)
      refine (js_ret ?_)
      refine (je_callC (cal__law_single_2 T) (hr.mono (by decide)) tk ?_)
      exact (ja_refA (pv 0) (ja_cons (je_var (pv 1)) ja_nil))
    exact jss_nil
  refine (jss_cons ?_ ?_)
  · refine (js_if ?_ ?_ ?_)
    · exact (jt_cm (cr_eq (hu64 hr)) (je_var (pv 2)) je_int)
    · refine (jss_cons ?_ ?_)
      · refine (js_set (i := 3) sc__law_drawn_row.nd rfl (by first | exact .inl rfl | exact .inr rfl) ?_)
        refine (je_callC (cal__law_take_2 T) (hr.mono (by decide)) tk ?_)
        refine (ja_refA (pv 0) (ja_cons ?_ ja_nil))
        exact (je_shl je_int (je_var (pv 1)))
      refine (jss_one ?_)
      refine (js_ret (JF.je ?_))
      refine (jf_comp (own := [("_law_s", 5)]) (ts := [5]) rfl sc__law_drawn_row.nd ?_ (blkOk_by (N := N__law_drawn_row) (sc := (defScope s__law_drawn_row)) (by decide +kernel)) (by decide) (fun _ _ _ _ _ => ?_) (fun _ _ _ _ _ => jts_nil) (fun _ _ _ _ _ => ?_))
      · exact (ji_range1 rfl T.n_range (je_var (pv 1)))
      · exact (jg_name (pg_name (i := 5) sc__law_drawn_row.nd rfl (by first | exact .inl rfl | exact .inr rfl)))
      refine (je_band ?_ ?_)
      · exact (je_shl je_int (je_var (pv 5)))
      exact (je_var (pv 3))
    exact jss_nil
  refine (jss_cons ?_ ?_)
  · refine (js_if ?_ ?_ ?_)
    · exact (jt_cm (cr_eq (hu64 hr)) (je_var (pv 2)) je_int)
    · refine (jss_cons ?_ ?_)
      · refine (js_set (i := 4) sc__law_drawn_row.nd rfl (by first | exact .inl rfl | exact .inr rfl) ?_)
        refine (je_callC (cal__law_take_2 T) (hr.mono (by decide)) tk ?_)
        exact (ja_refA (pv 0) (ja_cons (je_var (pv 1)) ja_nil))
      refine (jss_one ?_)
      refine (js_ret (JF.je ?_))
      refine (jf_comp (own := [("_law_s", 5)]) (ts := [5]) rfl sc__law_drawn_row.nd ?_ (blkOk_by (N := N__law_drawn_row) (sc := (defScope s__law_drawn_row)) (by decide +kernel)) (by decide) (fun _ _ _ _ _ => ?_) (fun _ _ _ _ _ => jts_nil) (fun _ _ _ _ _ => ?_))
      · exact (ji_range1 rfl T.n_range (je_var (pv 1)))
      · exact (jg_name (pg_name (i := 5) sc__law_drawn_row.nd rfl (by first | exact .inl rfl | exact .inr rfl)))
      refine (je_shl ?_ ?_)
      · exact je_int
      refine (je_if ?_ ?_ ?_)
      · exact (jt_cm (cr_ne (hu64 hr)) (je_var (pv 5)) (je_var (pv 4)))
      · exact (je_var (pv 5))
      refine (je_callC (cal__law_take_2 T) (hr.mono (by decide)) takes0 ?_)
      exact (ja_refA (pv 0) (ja_cons (je_var (pv 1)) ja_nil))
    exact jss_nil
  refine (jss_cons ?_ ?_)
  · refine (js_if ?_ ?_ ?_)
    · exact (jt_cm (cr_eq (hu64 hr)) (je_var (pv 2)) je_int)
    · refine (jss_one ?_)
      refine (js_ret (JF.je ?_))
      refine (jf_comp (own := [("_law_s", 5)]) (ts := [5]) rfl sc__law_drawn_row.nd ?_ (blkOk_by (N := N__law_drawn_row) (sc := (defScope s__law_drawn_row)) (by decide +kernel)) (by decide) (fun _ _ _ _ _ => ?_) (fun _ _ _ _ _ => jts_nil) (fun _ _ _ _ _ => ?_))
      · exact (ji_range1 rfl T.n_range (je_var (pv 1)))
      · exact (jg_name (pg_name (i := 5) sc__law_drawn_row.nd rfl (by first | exact .inl rfl | exact .inr rfl)))
      refine (je_if ?_ ?_ ?_)
      · refine (jt_truth ?_ (fun _ => rfl))
        refine (je_callC (cal__law_take_2 T) (hr.mono (by decide)) takes0 ?_)
        exact (ja_refA (pv 0) (ja_cons je_int ja_nil))
      · refine (je_shl ?_ ?_)
        · exact je_int
        refine (je_callC (cal__law_take_2 T) (hr.mono (by decide)) takes0 ?_)
        exact (ja_refA (pv 0) (ja_cons (je_var (pv 1)) ja_nil))
      exact je_int
    exact jss_nil
  refine (jss_one ?_)
  refine (js_ret (JF.je ?_))
  refine (jf_comp (own := [("_law_s", 5)]) (ts := [5]) rfl sc__law_drawn_row.nd ?_ (blkOk_by (N := N__law_drawn_row) (sc := (defScope s__law_drawn_row)) (by decide +kernel)) (by decide) (fun _ _ _ _ _ => ?_) (fun _ _ _ _ _ => jts_nil) (fun _ _ _ _ _ => ?_))
  · exact (ji_range1 rfl T.n_range (je_var (pv 1)))
  · exact (jg_name (pg_name (i := 5) sc__law_drawn_row.nd rfl (by first | exact .inl rfl | exact .inr rfl)))
  refine (je_callC (cal__law_take_2 T) (hr.mono (by decide)) takes0 ?_)
  refine (ja_refA (pv 0) (ja_cons ?_ ja_nil))
  exact (je_shl je_int (je_var (pv 1)))
theorem cal__law_next_2 (T : Ft P w K mg cl) : Cal P w K mg base cl 1 "_law_next" [false, false] fn__law_next [] := by
  obtain ⟨f, fd, F, g⟩ := T.d__law_next
  have b : Binds K fd ["_law_row", "_law_lot"] [] := F.bindsN fun _ _ _ _ _ _ us hl => match us, hl with | [_, _], _ => rfl
  refine ⟨f, fd, ["_law_row", "_law_lot"], [], [], ⟨def_okD (N := N__law_next) F sc__law_next rfl (fun cdv A outer s H E hr tk po => ?_), g, F.kp⟩, b, .nil, fun _ => .nil⟩
  refine (jss_cons ?_ ?_)
  · exact (js_set (i := 2) sc__law_next.nd rfl (by first | exact .inl rfl | exact .inr rfl) je_int)
  refine (jss_cons ?_ ?_)
  · refine (js_for (ts := [3]) po rfl ?_ ?_ ?_)
    · exact (ji_range1 rfl T.n_range (je_lenV rfl T.n_len (pv 0)))
    · exact (jg_name (pg_name (i := 3) sc__law_next.nd rfl (by first | exact .inl rfl | exact .inr rfl)))
    refine (jss_one ?_)
    refine (js_if ?_ ?_ ?_)
    · refine (jt_cm (cr_eq (hu64 hr)) ?_ ?_)
      · refine (je_mod ?_ ?_)
        · refine (je_callint rfl T.n_int ?_)
          refine (ja_cons ?_ ja_nil)
          exact (je_shr (je_var (pv 1)) (je_var (pv 3)))
        exact je_int
      exact je_int
    · refine (jss_one ?_)
      refine (js_set (i := 2) sc__law_next.nd rfl (by first | exact .inl rfl | exact .inr rfl) ?_)
      refine (je_bor ?_ ?_)
      · exact (je_var (pv 2))
      exact (je_ixV (pv 0) (je_var (pv 3)))
    exact jss_nil
  refine (jss_one ?_)
  exact (js_ret (je_var (pv 2)))
theorem cal__law_back_2 (T : Ft P w K mg cl) : Cal P w K mg base cl 1 "_law_back" [false, false] fn__law_back [] := by
  obtain ⟨f, fd, F, g⟩ := T.d__law_back
  have b : Binds K fd ["_law_row", "_law_lot"] [] := F.bindsN fun _ _ _ _ _ _ us hl => match us, hl with | [_, _], _ => rfl
  refine ⟨f, fd, ["_law_row", "_law_lot"], [], [], ⟨def_okD (N := N__law_back) F sc__law_back rfl (fun cdv A outer s H E hr tk po => ?_), g, F.kp⟩, b, .nil, fun _ => .nil⟩
  refine (jss_cons ?_ ?_)
  · exact (js_set (i := 2) sc__law_back.nd rfl (by first | exact .inl rfl | exact .inr rfl) je_int)
  refine (jss_cons ?_ ?_)
  · refine (js_for (ts := [3]) po rfl ?_ ?_ ?_)
    · exact (ji_range1 rfl T.n_range (je_lenV rfl T.n_len (pv 0)))
    · exact (jg_name (pg_name (i := 3) sc__law_back.nd rfl (by first | exact .inl rfl | exact .inr rfl)))
    refine (jss_one ?_)
    refine (js_if ?_ ?_ ?_)
    · refine (jt_cm (cr_eq (hu64 hr)) ?_ ?_)
      · refine (je_band ?_ ?_)
        · exact (je_ixV (pv 0) (je_var (pv 3)))
        exact (je_var (pv 1))
      exact (je_ixV (pv 0) (je_var (pv 3)))
    · refine (jss_one ?_)
      refine (js_set (i := 2) sc__law_back.nd rfl (by first | exact .inl rfl | exact .inr rfl) ?_)
      refine (je_bor ?_ ?_)
      · exact (je_var (pv 2))
      exact (je_shl je_int (je_var (pv 3)))
    exact jss_nil
  refine (jss_one ?_)
  exact (js_ret (je_var (pv 2)))
theorem cal__law_list_2 (T : Ft P w K mg cl) : Cal P w K mg base cl 3 "_law_list" [true, false] fn__law_list [] := by
  obtain ⟨f, fd, F, g⟩ := T.d__law_list
  have b : Binds K fd ["_law_hand_here", "_law_items"] [] := F.bindsN fun _ _ _ _ _ _ us hl => match us, hl with | [_, _], _ => rfl
  refine ⟨f, fd, ["_law_hand_here", "_law_items"], [], [], ⟨def_okD (N := N__law_list) F sc__law_list rfl (fun cdv A outer s H E hr tk po => ?_), g, F.kp⟩, b, .nil, fun _ => .nil⟩
  refine (jss_one ?_)
  refine (js_ret ?_)
  refine (je_if ?_ (JF.je ?_) ?_)
  · refine (jt_truth ?_ (fun _ => rfl))
    refine (je_callC (cal__law_take_2 T) (hr.mono (by decide)) tk ?_)
    exact (ja_refA (pv 0) (ja_cons je_int ja_nil))
  · refine (jf_calllist rfl T.n_list ?_)
    exact (ja_cons (je_var (pv 1)) ja_nil)
  refine (je_calltuple rfl T.n_tuple ?_)
  exact (ja_cons (je_var (pv 1)) ja_nil)
theorem cal__law_int_1 (T : Ft P w K mg cl) : Cal P w K mg base cl 1 "_law_int" [false] fn__law_int [] := by
  obtain ⟨f, fd, F, g⟩ := T.d__law_int
  have b : Binds K fd ["_law_thing"] [] := F.bindsN fun _ _ _ _ _ _ us hl => match us, hl with | [_], _ => rfl
  refine ⟨f, fd, ["_law_thing"], [], [], ⟨def_okD (N := N__law_int) F sc__law_int rfl (fun cdv A outer s H E hr tk po => ?_), g, F.kp⟩, b, .nil, fun _ => .nil⟩
  refine (jss_one ?_)
  refine (js_ret ?_)
  refine (je_and ?_ (je_one ?_))
  · exact (je_isi (x := "") (T' := "int") (by decide) rfl T.n_isinstance (pe_tyn T.n_int (by decide +kernel)) (je_var (pv 0)))
  refine (je_not ?_)
  exact (je_isi (x := "") (T' := "bool") (by decide) rfl T.n_isinstance (pe_tyn T.n_bool (by decide +kernel)) (je_var (pv 0)))
theorem cal__law_exact_2 (T : Ft P w K mg cl) : ∀ n, Cal P w K mg base cl (1 + n) "_law_exact" [false, false] (fn__law_exact n) []
  | 0 => by
    obtain ⟨f, fd, F, g⟩ := T.d__law_exact
    exact ⟨f, fd, ["_law_told", "_law_due"], [], [], ⟨none_ok fun _ => rfl, g, F.kp⟩, F.bindsN fun _ _ _ _ _ _ us hl => match us, hl with | [_, _], _ => rfl, .nil, fun _ => .nil⟩
  | n + 1 => by
    have ih := cal__law_exact_2 T n
    obtain ⟨f, fd, F, g⟩ := T.d__law_exact
    have b : Binds K fd ["_law_told", "_law_due"] [] := F.bindsN fun _ _ _ _ _ _ us hl => match us, hl with | [_, _], _ => rfl
    refine ⟨f, fd, ["_law_told", "_law_due"], [], [], ⟨def_okD (N := N__law_exact) F sc__law_exact rfl (fun cdv A outer s H E hr tk po => ?_), g, F.kp⟩, b, .nil, fun _ => .nil⟩
    refine (jss_cons ?_ ?_)
    · refine (js_if ?_ ?_ ?_)
      · refine (jt_truth ?_ (fun _ => rfl))
        exact (je_isi (x := "") (T' := "tuple") (by decide) rfl T.n_isinstance (pe_tyn T.n_tuple (by decide +kernel)) (je_var (pv 1)))
      · refine (jss_cons ?_ ?_)
        · refine (js_if ?_ ?_ ?_)
          · refine (JW.jt ?_)
            refine (jw_or ?_ (jw_or1 ?_))
            · refine (jt_not ?_)
              refine (jt_truth ?_ (fun _ => rfl))
              exact (je_isi (x := "") (T' := "tuple") (by decide) rfl T.n_isinstance (pe_tyn T.n_tuple (by decide +kernel)) (je_var (pv 0)))
            exact (jt_cm (cr_ne (hu64 hr)) (je_lenV rfl T.n_len (pv 0)) (je_lenV rfl T.n_len (pv 1)))
          · refine (jss_one ?_)
            exact (js_ret je_bl)
          exact jss_nil
        refine (jss_one ?_)
        refine (js_ret ?_)
        refine (je_cm (cr_eq (hu64 hr)) (JF.je ?_) (JF.je ?_))
        · refine (jf_comp (own := [("_law_k", 2)]) (ts := [2]) rfl sc__law_exact.nd ?_ (blkOk_by (N := N__law_exact) (sc := (defScope s__law_exact)) (by decide +kernel)) (by decide) (fun _ _ _ _ _ => ?_) (fun _ _ _ _ _ => (jts_one ?_)) (fun _ _ _ _ _ => ?_))
          · exact (ji_range1 rfl T.n_range (je_lenV rfl T.n_len (pv 1)))
          · exact (jg_name (pg_name (i := 2) sc__law_exact.nd rfl (by first | exact .inl rfl | exact .inr rfl)))
          · refine (jt_not ?_)
            refine (jt_truth ?_ (fun _ => rfl))
            refine (je_callC (ih) hr takes0 ?_)
            refine (ja_cons ?_ (ja_cons ?_ ja_nil))
            · exact (je_ixV (pv 0) (je_var (pv 2)))
            exact (je_ixV (pv 1) (je_var (pv 2)))
          exact (je_var (pv 2))
        exact (jf_lst ja_nil)
      exact jss_nil
    refine (jss_cons ?_ ?_)
    · refine (js_if ?_ ?_ ?_)
      · exact (jt_cm cr_is (je_var (pv 1)) je_non)
      · refine (jss_one ?_)
        refine (js_ret ?_)
        exact (je_cm cr_is (je_var (pv 0)) je_non)
      exact jss_nil
    refine (jss_cons ?_ ?_)
    · refine (js_if ?_ ?_ ?_)
      · refine (jt_truth ?_ (fun _ => rfl))
        exact (je_isi (x := "") (T' := "bool") (by decide) rfl T.n_isinstance (pe_tyn T.n_bool (by decide +kernel)) (je_var (pv 1)))
      · refine (jss_one ?_)
        refine (js_ret ?_)
        refine (je_if ?_ ?_ ?_)
        · exact (jt_truV (pv 1) (fun _ => rfl))
        · exact (je_cm cr_is (je_var (pv 0)) je_bl)
        exact (je_cm cr_is (je_var (pv 0)) je_bl)
      exact jss_nil
    refine (jss_cons ?_ ?_)
    · refine (js_if ?_ ?_ ?_)
      · refine (jt_truth ?_ (fun _ => rfl))
        exact (je_isi (x := "") (T' := "str") (by decide) rfl T.n_isinstance (pe_tyn T.n_str (by decide +kernel)) (je_var (pv 1)))
      · refine (jss_one ?_)
        refine (js_ret ?_)
        refine (je_and ?_ (je_one ?_))
        · exact (je_isi (x := "") (T' := "str") (by decide) rfl T.n_isinstance (pe_tyn T.n_str (by decide +kernel)) (je_var (pv 0)))
        exact (je_cm (cr_eq (hu64 hr)) (je_var (pv 0)) (je_var (pv 1)))
      exact jss_nil
    refine (jss_one ?_)
    refine (js_ret ?_)
    refine (je_and ?_ (je_one ?_))
    · refine (je_callC (cal__law_int_1 T) (hr.mono (Nat.le_trans (m := 1) (by decide) (Nat.le_add_right _ _))) tk ?_)
      exact (ja_cons (je_var (pv 0)) ja_nil)
    exact (je_cm (cr_eq (hu64 hr)) (je_var (pv 0)) (je_var (pv 1)))
theorem cal__law_rounds_2 (T : Ft P w K mg cl) : Cal P w K mg base cl 2 "_law_rounds" [false, false] fn__law_rounds [] := by
  obtain ⟨f, fd, F, g⟩ := T.d__law_rounds
  have b : Binds K fd ["_law_members_here", "_law_v"] [] := F.bindsN fun _ _ _ _ _ _ us hl => match us, hl with | [_, _], _ => rfl
  refine ⟨f, fd, ["_law_members_here", "_law_v"], [], [], ⟨def_okD (N := N__law_rounds) F sc__law_rounds rfl (fun cdv A outer s H E hr tk po => ?_), g, F.kp⟩, b, .nil, fun _ => .nil⟩
  refine (jss_one ?_)
  refine (js_ret (JF.je ?_))
  refine (jf_comp (own := [("_law_lot", 2)]) (ts := [2]) rfl sc__law_rounds.nd ?_ (blkOk_by (N := N__law_rounds) (sc := (defScope s__law_rounds)) (by decide +kernel)) (by decide) (fun _ _ _ _ _ => ?_) (fun _ _ _ _ _ => jts_nil) (fun _ _ _ _ _ => ?_))
  · refine (ji_range1 rfl T.n_range ?_)
    exact (je_shl je_int (je_var (pv 1)))
  · exact (jg_name (pg_name (i := 2) sc__law_rounds.nd rfl (by first | exact .inl rfl | exact .inr rfl)))
  refine (je_callC (cal__law_rounded_2 T) (hr.mono (by decide)) takes0 ?_)
  exact (ja_cons (je_var (pv 0)) (ja_cons (je_var (pv 2)) ja_nil))
theorem cal__law_alike_3 (T : Ft P w K mg cl) : Cal P w K mg base cl 2 "_law_alike" [false, false, false] fn__law_alike [] := by
  obtain ⟨f, fd, F, g⟩ := T.d__law_alike
  have b : Binds K fd ["_law_rounds_here", "_law_row", "_law_lot"] [] := F.bindsN fun _ _ _ _ _ _ us hl => match us, hl with | [_, _, _], _ => rfl
  refine ⟨f, fd, ["_law_rounds_here", "_law_row", "_law_lot"], [], [], ⟨def_okD (N := N__law_alike) F sc__law_alike rfl (fun cdv A outer s H E hr tk po => ?_), g, F.kp⟩, b, .nil, fun _ => .nil⟩
  refine (jss_one ?_)
  refine (js_ret ?_)
  refine (je_cm (cr_eq (hu64 hr)) ?_ ?_)
  · refine (je_ixV (pv 0) ?_)
    refine (je_callC (cal__law_next_2 T) (hr.mono (by decide)) tk ?_)
    exact (ja_cons (je_var (pv 1)) (ja_cons (je_var (pv 2)) ja_nil))
  refine (je_ixV (pv 0) ?_)
  refine (je_callC (cal__law_next_2 T) (hr.mono (by decide)) tk ?_)
  refine (ja_cons ?_ (ja_cons ?_ ja_nil))
  · exact (je_var (pv 1))
  exact (je_ixV (pv 0) (je_var (pv 2)))
theorem cal__law_refined_3 (T : Ft P w K mg cl) : Cal P w K mg base cl 3 "_law_refined" [false, false, false] fn__law_refined [] := by
  obtain ⟨f, fd, F, g⟩ := T.d__law_refined
  have b : Binds K fd ["_law_v", "_law_members_here", "_law_rows"] [] := F.bindsN fun _ _ _ _ _ _ us hl => match us, hl with | [_, _, _], _ => rfl
  refine ⟨f, fd, ["_law_v", "_law_members_here", "_law_rows"], [], [], ⟨def_okD (N := N__law_refined) F sc__law_refined rfl (fun cdv A outer s H E hr tk po => ?_), g, F.kp⟩, b, .nil, fun _ => .nil⟩
  refine (jss_cons ?_ ?_)
  · refine (js_for (ts := [3]) po rfl ?_ ?_ ?_)
    · exact (ji_range1 rfl T.n_range je_int)
    · exact (jg_name (pg_name (i := 3) sc__law_refined.nd rfl (by first | exact .inl rfl | exact .inr rfl)))
    refine (jss_cons ?_ ?_)
    · refine (js_set (i := 4) sc__law_refined.nd rfl (by first | exact .inl rfl | exact .inr rfl) (JF.je ?_))
      refine (jf_calllist rfl T.n_list ?_)
      exact (ja_cons (je_var (pv 1)) ja_nil)
    refine (jss_cons ?_ ?_)
    · refine (js_for (ts := [5]) po rfl ?_ ?_ ?_)
      · exact (ji_seq (je_var (pv 2)))
      · exact (jg_name (pg_name (i := 5) sc__law_refined.nd rfl (by first | exact .inl rfl | exact .inr rfl)))
      refine (jss_one ?_)
      refine (js_set (i := 4) sc__law_refined.nd rfl (by first | exact .inl rfl | exact .inr rfl) ?_)
      refine (je_add ?_ (JF.je ?_))
      · exact (je_var (pv 4))
      refine (jf_comp (own := [("_law_member", 7)]) (ts := [7]) rfl sc__law_refined.nd ?_ (blkOk_by (N := N__law_refined) (sc := (defScope s__law_refined)) (by decide +kernel)) (by decide) (fun _ _ _ _ _ => ?_) (fun _ _ _ _ _ => jts_nil) (fun _ _ _ _ _ => ?_))
      · exact (ji_seq (je_var (pv 1)))
      · exact (jg_name (pg_name (i := 7) sc__law_refined.nd rfl (by first | exact .inl rfl | exact .inr rfl)))
      refine (je_callC (cal__law_back_2 T) (hr.mono (by decide)) takes0 ?_)
      exact (ja_cons (je_var (pv 5)) (ja_cons (je_var (pv 7)) ja_nil))
    refine (jss_cons ?_ ?_)
    · refine (js_set (i := 6) sc__law_refined.nd rfl (by first | exact .inl rfl | exact .inr rfl) ?_)
      refine (je_callC (cal__law_met_2 T) (hr.mono (by decide)) tk ?_)
      exact (ja_cons (je_var (pv 0)) (ja_cons (je_var (pv 4)) ja_nil))
    refine (jss_cons ?_ ?_)
    · refine (js_if ?_ ?_ ?_)
      · exact (jt_cm (cr_eq (hu64 hr)) (je_var (pv 6)) (je_var (pv 1)))
      · refine (jss_one ?_)
        exact (js_ret (je_var (pv 1)))
      exact jss_nil
    refine (jss_one ?_)
    exact (js_set (i := 1) sc__law_refined.nd rfl (by first | exact .inl rfl | exact .inr rfl) (je_var (pv 6)))
  refine (jss_one ?_)
  exact (js_ret (je_var (pv 1)))
theorem cal__law_rich_members_2 (T : Ft P w K mg cl) : Cal P w K mg base cl 4 "_law_rich_members" [true, false] fn__law_rich_members [] := by
  obtain ⟨f, fd, F, g⟩ := T.d__law_rich_members
  have b : Binds K fd ["_law_hand_here", "_law_v"] [] := F.bindsN fun _ _ _ _ _ _ us hl => match us, hl with | [_, _], _ => rfl
  refine ⟨f, fd, ["_law_hand_here", "_law_v"], [], [], ⟨def_okD (N := N__law_rich_members) F sc__law_rich_members rfl (fun cdv A outer s H E hr tk po => ?_), g, F.kp⟩, b, .nil, fun _ => .nil⟩
  refine (jss_cons ?_ ?_)
  · refine (js_if ?_ ?_ ?_)
    · refine (jt_cm (cr_eq (hu64 hr)) ?_ ?_)
      · refine (je_callC (cal__law_take_2 T) (hr.mono (by decide)) tk ?_)
        exact (ja_refA (pv 0) (ja_cons je_int ja_nil))
      exact je_int
    · refine (jss_one ?_)
      refine (js_ret ?_)
      refine (je_callC (cal__law_members_2 T) (hr.mono (by decide)) tk ?_)
      exact (ja_refA (pv 0) (ja_cons (je_var (pv 1)) ja_nil))
    exact jss_nil
  refine (jss_one ?_)
  refine (js_ret ?_)
  refine (je_callC (cal__law_met_2 T) (hr.mono (by decide)) tk ?_)
  refine (ja_cons ?_ (ja_cons ?_ ja_nil))
  · exact (je_var (pv 1))
  refine (je_add (JF.je ?_) (JF.je ?_))
  · refine (jf_lst ?_)
    exact (ja_cons je_int ja_nil)
  refine (jf_comp (own := [("_law_k", 2)]) (ts := [2]) rfl sc__law_rich_members.nd ?_ (blkOk_by (N := N__law_rich_members) (sc := (defScope s__law_rich_members)) (by decide +kernel)) (by decide) (fun _ _ _ _ _ => ?_) (fun _ _ _ _ _ => jts_nil) (fun _ _ _ _ _ => ?_))
  · refine (ji_range1 rfl T.n_range ?_)
    refine (je_add ?_ ?_)
    · exact je_int
    refine (je_callC (cal__law_take_2 T) (hr.mono (by decide)) tk ?_)
    exact (ja_refA (pv 0) (ja_cons je_int ja_nil))
  · exact (jg_name (pg_name (i := 2) sc__law_rich_members.nd rfl (by first | exact .inl rfl | exact .inr rfl)))
  refine (je_callC (cal__law_take_2 T) (hr.mono (by decide)) takes0 ?_)
  refine (ja_refA (pv 0) (ja_cons ?_ ja_nil))
  exact (je_shl je_int (je_var (pv 1)))
theorem ok_law (T : Ft P w K mg cl) {f : Addr} {fd : FuncData} (F : FunD K "law" "law" (defArgs s_law) (defBody s_law) (defScope s_law) [] [] f fd) : FnOk P w K mg base (L2.CX P w) 8 f fd ["_law_script"] (SpF K cl [false] fn_law) := by
  refine def_okD (N := N_law) F sc_law rfl (fun cdv A outer s H E hr tk po => ?_)
  refine (jss_cons ?_ ?_)
  · refine (js_setO (i := 1) sc_law.nd rfl (by first | exact .inl rfl | exact .inr rfl) ?_)
    refine (jf_callC (cal__law_hand_1 T) (hr.mono (by decide)) tk ?_)
    exact (ja_cons (je_var (pv 0)) ja_nil)
  refine (jss_cons ?_ ?_)
  · refine (js_set (i := 2) sc_law.nd rfl (by first | exact .inl rfl | exact .inr rfl) ?_)
    exact (je_callC (cal__law_stands_1 T) (hr.mono (by decide)) tk (ja_refA (pv 1) ja_nil))
  refine (jss_cons ?_ ?_)
  · refine (js_set (i := 3) sc_law.nd rfl (by first | exact .inl rfl | exact .inr rfl) ?_)
    refine (je_callC (cal__law_rich_members_2 T) (hr.mono (by decide)) tk ?_)
    exact (ja_refA (pv 1) (ja_cons (je_var (pv 2)) ja_nil))
  refine (jss_cons ?_ ?_)
  · refine (js_set (i := 4) sc_law.nd rfl (by first | exact .inl rfl | exact .inr rfl) ?_)
    refine (je_callC (cal__law_drawn_row_2 T) (hr.mono (by decide)) tk ?_)
    exact (ja_refA (pv 1) (ja_cons (je_var (pv 2)) ja_nil))
  refine (jss_cons ?_ ?_)
  · refine (js_if ?_ ?_ ?_)
    · refine (jt_cm (cr_eq (hu64 hr)) ?_ ?_)
      · refine (je_callC (cal__law_take_2 T) (hr.mono (by decide)) tk ?_)
        exact (ja_refA (pv 1) (ja_cons je_int ja_nil))
      exact je_int
    · refine (jss_one ?_)
      refine (js_set (i := 3) sc_law.nd rfl (by first | exact .inl rfl | exact .inr rfl) ?_)
      refine (je_callC (cal__law_refined_3 T) (hr.mono (by decide)) tk ?_)
      refine (ja_cons ?_ (ja_cons ?_ (ja_cons (JF.je ?_) ja_nil)))
      · exact (je_var (pv 2))
      · exact (je_var (pv 3))
      refine (jf_lst ?_)
      exact (ja_cons (je_var (pv 4)) ja_nil)
    exact jss_nil
  refine (jss_cons ?_ ?_)
  · refine (js_set (i := 5) sc_law.nd rfl (by first | exact .inl rfl | exact .inr rfl) (JF.je ?_))
    refine (jf_make (calK_Glasses_init T) (hr.mono (by decide)) tk ?_)
    refine (ja_cons ?_ (ja_cons ?_ ja_nil))
    · exact (je_var (pv 2))
    refine (je_callC (cal__law_list_2 T) (hr.mono (by decide)) tk ?_)
    exact (ja_refA (pv 1) (ja_cons (je_var (pv 3)) ja_nil))
  refine (jss_cons ?_ ?_)
  · refine (js_set (i := 6) sc_law.nd rfl (by first | exact .inl rfl | exact .inr rfl) ?_)
    refine (je_callC (cal__law_list_2 T) (hr.mono (by decide)) tk ?_)
    exact (ja_refA (pv 1) (ja_cons (je_var (pv 4)) ja_nil))
  refine (jss_cons ?_ ?_)
  · refine (js_set (i := 7) sc_law.nd rfl (by first | exact .inl rfl | exact .inr rfl) ?_)
    refine (je_callC (cal__law_rounds_2 T) (hr.mono (by decide)) tk ?_)
    exact (ja_cons (je_var (pv 3)) (ja_cons (je_var (pv 2)) ja_nil))
  refine (jss_cons ?_ ?_)
  · refine (js_set (i := 8) sc_law.nd rfl (by first | exact .inl rfl | exact .inr rfl) (JF.je ?_))
    refine (jf_comp (own := [("_law_member", 17)]) (ts := [17]) rfl sc_law.nd ?_ (blkOk_by (N := N_law) (sc := (defScope s_law)) (by decide +kernel)) (by decide) (fun _ _ _ _ _ => ?_) (fun _ _ _ _ _ => jts_nil) (fun _ _ _ _ _ => ?_))
    · exact (ji_seq (je_var (pv 3)))
    · exact (jg_name (pg_name (i := 17) sc_law.nd rfl (by first | exact .inl rfl | exact .inr rfl)))
    refine (je_callC (cal__law_back_2 T) (hr.mono (by decide)) takes0 ?_)
    exact (ja_cons (je_var (pv 4)) (ja_cons (je_var (pv 17)) ja_nil))
  refine (jss_cons ?_ ?_)
  · refine (js_setO (i := 9) sc_law.nd rfl (by first | exact .inl rfl | exact .inr rfl) ?_)
    exact (jf_lst ja_nil)
  refine (jss_cons ?_ ?_)
  · refine (js_for (ts := [10]) po rfl ?_ ?_ ?_)
    · refine (ji_range1 rfl T.n_range ?_)
      exact (je_shl je_int (je_var (pv 2)))
    · exact (jg_name (pg_name (i := 10) sc_law.nd rfl (by first | exact .inl rfl | exact .inr rfl)))
    refine (jss_cons ?_ ?_)
    · refine (js_set (i := 11) sc_law.nd rfl (by first | exact .inl rfl | exact .inr rfl) ?_)
      refine (je_callC (cal_sharp_at_3 T) (hr.mono (by decide)) tk ?_)
      exact (ja_cons (je_var (pv 5)) (ja_cons (je_var (pv 6)) (ja_cons (je_var (pv 10)) ja_nil)))
    refine (jss_cons ?_ ?_)
    · refine (js_if ?_ ?_ ?_)
      · refine (jt_not ?_)
        refine (jt_truth ?_ (fun _ => rfl))
        refine (je_callC (cal__law_exact_2 T 4) (hr.mono (by decide)) tk ?_)
        refine (ja_cons ?_ (ja_cons ?_ ja_nil))
        · exact (je_var (pv 11))
        refine (je_callC (cal__law_alike_3 T) (hr.mono (by decide)) tk ?_)
        exact (ja_cons (je_var (pv 7)) (ja_cons (je_var (pv 4)) (ja_cons (je_var (pv 10)) ja_nil)))
      · refine (jss_one ?_)
        exact (js_ret je_bl)
      exact jss_nil
    refine (jss_cons ?_ ?_)
    · exact (js_app (pv 9) (je_var (pv 11)))
    refine (jss_cons ?_ ?_)
    · refine (js_set (i := 12) sc_law.nd rfl (by first | exact .inl rfl | exact .inr rfl) ?_)
      refine (je_ixV (pv 7) ?_)
      refine (je_callC (cal__law_next_2 T) (hr.mono (by decide)) tk ?_)
      exact (ja_cons (je_var (pv 4)) (ja_cons (je_var (pv 10)) ja_nil))
    refine (jss_cons ?_ ?_)
    · refine (js_set (i := 13) sc_law.nd rfl (by first | exact .inl rfl | exact .inr rfl) ?_)
      refine (je_sub ?_ ?_)
      · exact (je_ixV (pv 7) (je_var (pv 10)))
      refine (je_band ?_ ?_)
      · exact (je_ixV (pv 7) (je_var (pv 10)))
      refine (je_callC (cal__law_back_2 T) (hr.mono (by decide)) tk ?_)
      exact (ja_cons (je_var (pv 4)) (ja_cons (je_var (pv 12)) ja_nil))
    refine (jss_cons ?_ ?_)
    · refine (js_if ?_ ?_ ?_)
      · refine (jt_not ?_)
        refine (jt_truth ?_ (fun _ => rfl))
        refine (je_callC (cal__law_exact_2 T 4) (hr.mono (by decide)) tk ?_)
        refine (ja_cons ?_ (ja_cons ?_ ja_nil))
        · refine (je_callC (cal_blurring_lot_3 T) (hr.mono (by decide)) tk ?_)
          exact (ja_cons (je_var (pv 5)) (ja_cons (je_var (pv 6)) (ja_cons (je_var (pv 10)) ja_nil)))
        exact (je_var (pv 13))
      · refine (jss_one ?_)
        exact (js_ret je_bl)
      exact jss_nil
    refine (jss_cons ?_ ?_)
    · refine (js_if ?_ ?_ ?_)
      · refine (jt_cm (cr_ne (hu64 hr)) ?_ ?_)
        · exact (je_var (pv 11))
        exact (je_cm (cr_eq (hu64 hr)) (je_var (pv 13)) je_int)
      · refine (jss_one ?_)
        exact (js_ret je_bl)
      exact jss_nil
    refine (jss_cons ?_ ?_)
    · refine (js_lc (own := [("_law_k", 18)]) (ts := [18]) (i := 14) rfl sc_law.nd rfl rfl (sw_true rfl rfl rfl (by decide +kernel)) ?_ (blkOk_by (N := N_law) (sc := (defScope s_law)) (by decide +kernel)) (by decide) (fun _ _ _ _ _ => ?_) (fun _ _ _ _ _ => (jts_one ?_)) (fun _ _ _ _ _ => ?_))
      · exact (ji_range1 rfl T.n_range (je_lenV rfl T.n_len (pv 3)))
      · exact (jg_name (pg_name (i := 18) sc_law.nd rfl (by first | exact .inl rfl | exact .inr rfl)))
      · refine (JW.jt ?_)
        refine (jw_and ?_ (jw_and1 ?_))
        · refine (jt_truth ?_ (fun _ => rfl))
          refine (je_callC (cal__law_within_2 T) (hr.mono (by decide)) takes0 ?_)
          refine (ja_cons ?_ (ja_cons ?_ ja_nil))
          · exact (je_var (pv 10))
          exact (je_ixV (pv 8) (je_var (pv 18)))
        refine (jt_not ?_)
        refine (jt_truth ?_ (fun _ => rfl))
        refine (je_callC (cal__law_within_2 T) (hr.mono (by decide)) takes0 ?_)
        refine (ja_cons ?_ (ja_cons ?_ ja_nil))
        · exact (je_ixV (pv 7) (je_var (pv 10)))
        exact (je_ixV (pv 8) (je_var (pv 18)))
      exact (je_ixV (pv 3) (je_var (pv 18)))
    refine (jss_cons ?_ ?_)
    · refine (js_if ?_ ?_ ?_)
      · refine (jt_cm (cr_ne (hu64 hr)) ?_ ?_)
        · exact (je_var (pv 11))
        refine (je_cm (cr_eq (hu64 hr)) ?_ (JF.je ?_))
        · exact (je_var (pv 14))
        exact (jf_lst ja_nil)
      · refine (jss_one ?_)
        exact (js_ret je_bl)
      exact jss_nil
    refine (jss_one ?_)
    refine (js_if ?_ ?_ ?_)
    · refine (JW.jt ?_)
      refine (jw_and ?_ (jw_and1 ?_))
      · refine (jt_cm (cr_ne (hu64 hr)) ?_ (JF.je ?_))
        · exact (je_var (pv 14))
        exact (jf_lst ja_nil)
      refine (jt_cm (cr_ne (hu64 hr)) ?_ ?_)
      · exact (je_ixV (pv 14) je_int)
      exact (je_var (pv 12))
    · refine (jss_one ?_)
      exact (js_ret je_bl)
    exact jss_nil
  refine (jss_cons ?_ ?_)
  · refine (js_for (ts := [10]) po rfl ?_ ?_ ?_)
    · refine (ji_range1 rfl T.n_range ?_)
      exact (je_shl je_int (je_var (pv 2)))
    · exact (jg_name (pg_name (i := 10) sc_law.nd rfl (by first | exact .inl rfl | exact .inr rfl)))
    refine (jss_one ?_)
    refine (js_for (ts := [15]) po rfl ?_ ?_ ?_)
    · exact (ji_range1 rfl T.n_range (je_var (pv 2)))
    · exact (jg_name (pg_name (i := 15) sc_law.nd rfl (by first | exact .inl rfl | exact .inr rfl)))
    refine (jss_cons ?_ ?_)
    · refine (js_set (i := 16) sc_law.nd rfl (by first | exact .inl rfl | exact .inr rfl) ?_)
      refine (je_bor ?_ ?_)
      · exact (je_var (pv 10))
      exact (je_shl je_int (je_var (pv 15)))
    refine (jss_one ?_)
    refine (js_if ?_ ?_ ?_)
    · refine (JW.jt ?_)
      refine (jw_and ?_ (jw_and ?_ (jw_and1 ?_)))
      · refine (jt_truth ?_ (fun _ => rfl))
        exact (je_ixV (pv 9) (je_var (pv 10)))
      · refine (jt_truth ?_ (fun _ => rfl))
        refine (je_callC (cal__law_within_2 T) (hr.mono (by decide)) tk ?_)
        refine (ja_cons ?_ (ja_cons ?_ ja_nil))
        · exact (je_var (pv 16))
        exact (je_ixV (pv 7) (je_var (pv 10)))
      refine (jt_not ?_)
      refine (jt_truth ?_ (fun _ => rfl))
      exact (je_ixV (pv 9) (je_var (pv 16)))
    · refine (jss_one ?_)
      exact (js_ret je_bl)
    exact jss_nil
  refine (jss_one ?_)
  refine (js_ret ?_)
  refine (je_cm (cr_eq (hu64 hr)) (JF.je ?_) ?_)
  · refine (jf_calllist rfl T.n_list ?_)
    exact (ja_cons (je_var (pv 6)) ja_nil)
  exact (je_var (pv 4))
end

end LW

set_option maxRecDepth 100000
set_option maxHeartbeats 2000000
namespace LW
open PySem PySem.Spec PyProof.Rows L2 DL
theorem mixed_ev (n t : Int) (hn : 0 ≤ n ∧ n < 2147483648) (ht : 0 ≤ t ∧ t ≤ 63) : ∃ r, fn__law_mixed [.int n, .int t] = .ret (.int r) [] ∧ 0 ≤ r ∧ r < 2147483648 := by
  show ∃ r, toFO [false, false] (F__law_mixed [.val (.int n), .val (.int t), .un, .un]) = .ret (.int r) [] ∧ 0 ≤ r ∧ r < 2147483648
  have c1 : cMul n 48271 = true := mul_ok (by omega) (by decide)
  have c2 : cMul t 7919 = true := mul_ok (by omega) (by decide)
  have c5 : cMul t 92821 = true := mul_ok (by omega) (by decide)
  generalize hA : (n * 48271 + t * 7919 + 30011) % 2147483399 = A
  have hA2 : 0 ≤ A ∧ A < 2147483399 := by omega
  have c3 : cMul A A = true := mul_ok (by omega) (by omega)
  generalize hB : (A * A + t * 92821 + A / 131) % 2147483629 = B
  have hB2 : 0 ≤ B ∧ B < 2147483629 := by
    rw [← hB]
    exact ⟨Int.emod_nonneg _ (by decide), Int.emod_lt_of_pos _ (by decide)⟩
  have c4 : cMul B 69621 = true := mul_ok (by omega) (by decide)
  have p1 : ∀ i, cPos i 2147483399 = true := fun i => rfl
  have p2 : ∀ i, cPos i 2147483629 = true := fun i => rfl
  have p3 : ∀ i, cPos i 2147483587 = true := fun i => rfl
  have d1 : ∀ i, cDiv i 131 = true := fun i => div_ok (by decide) (by decide)
  have d2 : ∀ i, cDiv i 13 = true := fun i => div_ok (by decide) (by decide)
  have d3 : ∀ i, cDiv i 32 = true := fun i => div_ok (by decide) (by decide)
  simp -implicitDefEqProofs only [F__law_mixed, a_seq, a_expr, a_ret, a_retO, a_set, a_setO, a_if, a_unp, a_for, a_nil, a_retN, a_then_0, a_then_1, a_then_2, a_then_3, a_sK_0, a_sK_1, a_ifS_0, a_ifS_1, a_ifS_2, a_k_0, a_k_1, a_k_2, a_k_3, a_k_4, a_k_5, a_k_6, a_setV, a_setOd, a_setVK_0, a_setVK_1, a_setVK_2, a_setVK_3, a_setVK_4, a_setVK_5, a_c, a_var, a_varK_0, a_varK_1, a_bin, a_binK_0, a_binK_1, a_binK_2, a_binK_3, a_oE_0, a_oE_1, a_un, a_unK_0, a_unK_1, a_unK_2, a_unK_3, a_test, a_tru, a_not, a_asB_0, a_asB_1, a_asB_2, a_asB_3, a_lst_0, a_lst_1, a_and, a_or, a_andK_0, a_andK_1, a_andK_2, a_andK_3, a_andK_4, a_andK_5, a_dIf, a_tand, a_tor, a_tnot, a_ifK_0, a_ifK_1, a_ifK_2, a_ifK_3, a_ifK_4, a_cons, a_consK_0, a_consK_1, a_consK_2, a_consK_3, a_consK_4, a_refA, a_refK_0, a_refK_1, a_refK_2, a_cb, a_tup, a_dLst, a_vals0, a_vals1, a_vals2, a_vals3, a_vals4, call_eq, callO_eq, a_call1, a_call2, a_call3, a_call4, a_rf0, a_rf1, a_rf2, a_rfK_0, a_rfK_1, a_rfK_2, a_end0_0, a_end0_1, a_end0_2, a_end0_3, a_end1, a_put1_0, a_put1_1, a_look, a_lkK_0, a_lkK_1, a_lkK_2, a_ixV, a_ixK_0, a_ixK_1, a_ixK_2, a_lenV, a_truV, a_len_0, a_len_1, a_len_2, a_len_3, a_len_4, a_it, a_rg1, a_rgL, a_en, a_zp, a_itK_0, a_itK_1, a_itK_2, a_itE_0, a_itE_1, a_comp, a_compK_0, a_compK_1, a_isi, a_gI_0, a_gI_1, a_gI_2, List.getElem?_cons_zero, List.getElem?_cons_succ, List.set_cons_zero, List.set_cons_succ, Option.bind_some, Option.map_some, f_nil, f_cons, f_some, f_nx, f_ct, f_bk, f_rt, f_ex, a_putV, a_pv0, a_pv1, a_put, a_sp0, a_sp1, a_sp2, a_sp3, a_sp4, a_app, a_sa1, a_sa2, a_aug, a_au1, a_au2, a_au3, gEq_int, gNe_int, ct_rf, ct_own, if_true, if_false, Bool.false_eq_true, a_try, a_tryK_0, a_tryK_1, a_tryK_2, a_tryH_0, a_tryH_1, a_tryK2_0, a_tryK2_1, a_hdS_0, a_hdS_1, a_compX, a_compKX_0, a_fld, a_meth, a_prop, a_propK, a_propE, a_make, a_makeK, a_makeE, a_putF, a_pfK, a_lkv, a_lkvK, a_dct1, a_dct1K, a_dct1K2, a_dct2, a_key, a_putK, a_pk0, a_pk1, a_pk2, a_rg2, a_rg2K, a_rg2K2, a_oL, int1, c1, c2, c3, c4, c5, p1, p2, p3, d1, d2, d3, hA, hB]
  refine ⟨_, rfl, ?_, ?_⟩ <;> omega
def hd (cs : List Int) (p r t : Int) : D := .lst [.lst (cs.map .int), .int p, .int r, .int t]
structure HandI (cs : List Int) (p r t : Int) : Prop where
  pos : ∀ c ∈ cs, 0 ≤ c
  p0 : 0 ≤ p
  p1 : p ≤ cs.length
  r0 : 0 ≤ r
  t0 : 0 ≤ t
  t1 : t < 2147483549
  l : cs.length ≤ 63
def Hand (d : D) : Prop := ∃ cs p r t, d = hd cs p r t ∧ HandI cs p r t
theorem hand_turn (ns k : List Int) (tot v : Int) (s3 : Sl) (h3 : s3 = .un ∨ ∃ d, s3 = .val d) (h0 : 0 ≤ tot) (h1 : tot < 2147483549) (hl : k.length ≤ 63) :
    ∃ δ1, setV 3 (.int v) [.val (.scr ns), .val (.int tot), .own (.lst (k.map D.int)), s3] = some δ1 ∧
      B__law_hand_0 δ1 = .nx [.val (.scr ns), .val (.int ((tot * 1721 + v) % 2147483549)), .own (.lst ((k ++ [if v < 0 then -v else v]).map D.int)), .val (.int v)] := by
  have c1 : cMul tot 1721 = true := mul_ok (by omega) (by decide)
  have p1 : ∀ i, cPos i 2147483549 = true := fun i => rfl
  have l1 : (k.map D.int).length < sizeLine := by rw [List.length_map]; exact app_lt hl
  have l2 : ∀ v δ, saK3 2 v δ (some (.lst (k.map D.int))) = oNx (putV 2 (.lst ((k.map D.int) ++ [v])) δ) := fun v δ => a_sa3 _ _ _ _ l1
  refine ⟨[.val (.scr ns), .val (.int tot), .own (.lst (k.map D.int)), .val (.int v)], ?_, ?_⟩
  · rcases h3 with rfl | ⟨d, rfl⟩ <;> rfl
  · simp -implicitDefEqProofs only [B__law_hand_0, a_seq, a_expr, a_ret, a_retO, a_set, a_setO, a_if, a_unp, a_for, a_nil, a_retN, a_then_0, a_then_1, a_then_2, a_then_3, a_sK_0, a_sK_1, a_ifS_0, a_ifS_1, a_ifS_2, a_k_0, a_k_1, a_k_2, a_k_3, a_k_4, a_k_5, a_k_6, a_setV, a_setOd, a_setVK_0, a_setVK_1, a_setVK_2, a_setVK_3, a_setVK_4, a_setVK_5, a_c, a_var, a_varK_0, a_varK_1, a_bin, a_binK_0, a_binK_1, a_binK_2, a_binK_3, a_oE_0, a_oE_1, a_un, a_unK_0, a_unK_1, a_unK_2, a_unK_3, a_test, a_tru, a_not, a_asB_0, a_asB_1, a_asB_2, a_asB_3, a_lst_0, a_lst_1, a_and, a_or, a_andK_0, a_andK_1, a_andK_2, a_andK_3, a_andK_4, a_andK_5, a_dIf, a_tand, a_tor, a_tnot, a_ifK_0, a_ifK_1, a_ifK_2, a_ifK_3, a_ifK_4, a_cons, a_consK_0, a_consK_1, a_consK_2, a_consK_3, a_consK_4, a_refA, a_refK_0, a_refK_1, a_refK_2, a_cb, a_tup, a_dLst, a_vals0, a_vals1, a_vals2, a_vals3, a_vals4, call_eq, callO_eq, a_call1, a_call2, a_call3, a_call4, a_rf0, a_rf1, a_rf2, a_rfK_0, a_rfK_1, a_rfK_2, a_end0_0, a_end0_1, a_end0_2, a_end0_3, a_end1, a_put1_0, a_put1_1, a_look, a_lkK_0, a_lkK_1, a_lkK_2, a_ixV, a_ixK_0, a_ixK_1, a_ixK_2, a_lenV, a_truV, a_len_0, a_len_1, a_len_2, a_len_3, a_len_4, a_it, a_rg1, a_rgL, a_en, a_zp, a_itK_0, a_itK_1, a_itK_2, a_itE_0, a_itE_1, a_comp, a_compK_0, a_compK_1, a_isi, a_gI_0, a_gI_1, a_gI_2, List.getElem?_cons_zero, List.getElem?_cons_succ, List.set_cons_zero, List.set_cons_succ, Option.bind_some, Option.map_some, f_nil, f_cons, f_some, f_nx, f_ct, f_bk, f_rt, f_ex, a_putV, a_pv0, a_pv1, a_put, a_sp0, a_sp1, a_sp2, a_sp3, a_sp4, a_app, a_sa1, a_sa2, a_aug, a_au1, a_au2, a_au3, gEq_int, gNe_int, ct_rf, ct_own, if_true, if_false, Bool.false_eq_true, a_try, a_tryK_0, a_tryK_1, a_tryK_2, a_tryH_0, a_tryH_1, a_tryK2_0, a_tryK2_1, a_hdS_0, a_hdS_1, a_compX, a_compKX_0, a_fld, a_meth, a_prop, a_propK, a_propE, a_make, a_makeK, a_makeE, a_putF, a_pfK, a_lkv, a_lkvK, a_dct1, a_dct1K, a_dct1K2, a_dct2, a_key, a_putK, a_pk0, a_pk1, a_pk2, a_rg2, a_rg2K, a_rg2K2, a_oL, int1, abs1, c1, p1, l2, List.map_append, List.map_cons, List.map_nil]
def HandL (ns : List Int) (pre : List D) (δ : DEnv) : Prop := ∃ (k : List Int) (tot : Int) (s3 : Sl), pre = k.map D.int ∧ 0 ≤ tot ∧ tot < 2147483549 ∧ (s3 = .un ∨ ∃ d, s3 = .val d) ∧ δ = [.val (.scr ns), .val (.int tot), .own (.lst ((k.map fun i => if i < 0 then -i else i).map D.int)), s3]
theorem hand_step (ns : List Int) (h : ns.length ≤ 63) (pre : List D) (d : D) (r : List D) (δ : DEnv) (eall : ns.map D.int = pre ++ d :: r) (hI : HandL ns pre δ) : ∃ δ1 δ2, setV 3 d δ = some δ1 ∧ B__law_hand_0 δ1 = .nx δ2 ∧ HandL ns (pre ++ [d]) δ2 := by
  obtain ⟨k, tot, s3, rfl, h0, h1, h3, rfl⟩ := hI
  have hlen : k.length ≤ 63 := by
    have := congrArg List.length eall
    simp only [List.length_map, List.length_append, List.length_cons] at this
    omega
  have hd : d ∈ ns.map D.int := by rw [eall]; simp
  obtain ⟨v, _, rfl⟩ := List.mem_map.mp hd
  obtain ⟨δ1, e1, e2⟩ := hand_turn ns (k.map fun i => if i < 0 then -i else i) tot v s3 h3 h0 h1 (by simpa using hlen)
  refine ⟨δ1, _, e1, e2, k ++ [v], (tot * 1721 + v) % 2147483549, .val (.int v), by simp, Int.emod_nonneg _ (by decide), Int.emod_lt_of_pos _ (by decide), .inr ⟨_, rfl⟩, ?_⟩
  simp
theorem hand_ev (ns : List Int) (h : ns.length ≤ 63) : ∃ d, fn__law_hand [.scr ns] = .new d [] ∧ Hand d := by
  show ∃ d, toFO [false] (F__law_hand [.val (.scr ns), .un, .un, .un]) = .new d [] ∧ Hand d
  have key := for_pos (A := setV 3) (f := B__law_hand_0) (HandL ns) (ns.map D.int) (ns.map D.int) [] [.val (.scr ns), .val (.int ((ns.length : Int) + 41)), .own (.lst []), .un] rfl ⟨[], _, _, rfl, by omega, by omega, .inl rfl, rfl⟩ (hand_step ns h)
  obtain ⟨δ', e, k, tot, s3, ek, h0, h1, h3, rfl⟩ := key
  have ek' := ints_inj ek
  subst ek'
  have q0 : gLen [.scr k] = some (.int (k.length : Nat)) := rfl
  simp -implicitDefEqProofs only [F__law_hand, a_seq, a_expr, a_ret, a_retO, a_set, a_setO, a_if, a_unp, a_for, a_nil, a_retN, a_then_0, a_then_1, a_then_2, a_then_3, a_sK_0, a_sK_1, a_ifS_0, a_ifS_1, a_ifS_2, a_k_0, a_k_1, a_k_2, a_k_3, a_k_4, a_k_5, a_k_6, a_setV, a_setOd, a_setVK_0, a_setVK_1, a_setVK_2, a_setVK_3, a_setVK_4, a_setVK_5, a_c, a_var, a_varK_0, a_varK_1, a_bin, a_binK_0, a_binK_1, a_binK_2, a_binK_3, a_oE_0, a_oE_1, a_un, a_unK_0, a_unK_1, a_unK_2, a_unK_3, a_test, a_tru, a_not, a_asB_0, a_asB_1, a_asB_2, a_asB_3, a_lst_0, a_lst_1, a_and, a_or, a_andK_0, a_andK_1, a_andK_2, a_andK_3, a_andK_4, a_andK_5, a_dIf, a_tand, a_tor, a_tnot, a_ifK_0, a_ifK_1, a_ifK_2, a_ifK_3, a_ifK_4, a_cons, a_consK_0, a_consK_1, a_consK_2, a_consK_3, a_consK_4, a_refA, a_refK_0, a_refK_1, a_refK_2, a_cb, a_tup, a_dLst, a_vals0, a_vals1, a_vals2, a_vals3, a_vals4, call_eq, callO_eq, a_call1, a_call2, a_call3, a_call4, a_rf0, a_rf1, a_rf2, a_rfK_0, a_rfK_1, a_rfK_2, a_end0_0, a_end0_1, a_end0_2, a_end0_3, a_end1, a_put1_0, a_put1_1, a_look, a_lkK_0, a_lkK_1, a_lkK_2, a_ixV, a_ixK_0, a_ixK_1, a_ixK_2, a_lenV, a_truV, a_len_0, a_len_1, a_len_2, a_len_3, a_len_4, a_it, a_rg1, a_rgL, a_en, a_zp, a_itK_0, a_itK_1, a_itK_2, a_itE_0, a_itE_1, a_comp, a_compK_0, a_compK_1, a_isi, a_gI_0, a_gI_1, a_gI_2, List.getElem?_cons_zero, List.getElem?_cons_succ, List.set_cons_zero, List.set_cons_succ, Option.bind_some, Option.map_some, f_nil, f_cons, f_some, f_nx, f_ct, f_bk, f_rt, f_ex, a_putV, a_pv0, a_pv1, a_put, a_sp0, a_sp1, a_sp2, a_sp3, a_sp4, a_app, a_sa1, a_sa2, a_aug, a_au1, a_au2, a_au3, gEq_int, gNe_int, ct_rf, ct_own, if_true, if_false, Bool.false_eq_true, a_try, a_tryK_0, a_tryK_1, a_tryK_2, a_tryH_0, a_tryH_1, a_tryK2_0, a_tryK2_1, a_hdS_0, a_hdS_1, a_compX, a_compKX_0, a_fld, a_meth, a_prop, a_propK, a_propE, a_make, a_makeK, a_makeE, a_putF, a_pfK, a_lkv, a_lkvK, a_dct1, a_dct1K, a_dct1K2, a_dct2, a_key, a_putK, a_pk0, a_pk1, a_pk2, a_rg2, a_rg2K, a_rg2K2, a_oL, q0, gLst0, e, gLst4]
  refine ⟨_, rfl, _, 0, 0, tot, rfl, ?_, Int.le_refl _, by omega, Int.le_refl _, h0, h1, by simpa using h⟩
  intro c hc
  obtain ⟨i, _, rfl⟩ := List.mem_map.mp hc
  split <;> omega
theorem take_ev (d : D) (m : Int) (h : Hand d) (hm : 0 < m) (hm2 : m < 4611686018427387904) : ∃ r d', fn__law_take [d, .int m] = .ret (.int r) [d'] ∧ Hand d' ∧ 0 ≤ r ∧ r < m := by
  obtain ⟨cs, p, r, t, rfl, H⟩ := h
  show ∃ r' d', toFO [true, false] (F__law_take [.rf (hd cs p r t), .val (.int m), .un, .un]) = .ret (.int r') [d'] ∧ Hand d' ∧ 0 ≤ r' ∧ r' < m
  have pm : ∀ i, cPos i m = true := fun i => pos_ok hm
  have dm : ∀ i, cDiv i m = true := fun i => div_ok hm (by omega)
  have p1 : ∀ i, cPos i 2147483399 = true := fun i => rfl
  have p2 : ∀ i, cPos i 2147483549 = true := fun i => rfl
  have lt_m : ∀ i : Int, 0 ≤ i % m ∧ i % m < m := fun i => ⟨Int.emod_nonneg _ (by omega), Int.emod_lt_of_pos _ hm⟩
  have hl := H.l
  have h0 := H.p0
  have h1 := H.p1
  by_cases hA : r = 0 ∧ p < cs.length
  · obtain ⟨rfl, hp⟩ := hA
    obtain ⟨c, ec, hc⟩ := at_int cs p h0 hp
    have c0 := H.pos c hc
    have e1 : ((0 : Int) == 0) = true := rfl
    have e2 : decide (p < (((cs.map D.int).length : Nat) : Int)) = true := decide_eq_true (by rw [List.length_map]; exact hp)
    by_cases hb : c < 1000000000000000000
    · have e4 : decide (c < 1000000000000000000) = true := decide_eq_true hb
      obtain ⟨q, eq, q0, q1⟩ := mixed_ev (c % 2147483399) (p + 1) ⟨by omega, by omega⟩ ⟨by omega, by omega⟩
      simp -implicitDefEqProofs only [F__law_take, a_seq, a_expr, a_ret, a_retO, a_set, a_setO, a_if, a_unp, a_for, a_nil, a_retN, a_then_0, a_then_1, a_then_2, a_then_3, a_sK_0, a_sK_1, a_ifS_0, a_ifS_1, a_ifS_2, a_k_0, a_k_1, a_k_2, a_k_3, a_k_4, a_k_5, a_k_6, a_setV, a_setOd, a_setVK_0, a_setVK_1, a_setVK_2, a_setVK_3, a_setVK_4, a_setVK_5, a_c, a_var, a_varK_0, a_varK_1, a_bin, a_binK_0, a_binK_1, a_binK_2, a_binK_3, a_oE_0, a_oE_1, a_un, a_unK_0, a_unK_1, a_unK_2, a_unK_3, a_test, a_tru, a_not, a_asB_0, a_asB_1, a_asB_2, a_asB_3, a_lst_0, a_lst_1, a_and, a_or, a_andK_0, a_andK_1, a_andK_2, a_andK_3, a_andK_4, a_andK_5, a_dIf, a_tand, a_tor, a_tnot, a_ifK_0, a_ifK_1, a_ifK_2, a_ifK_3, a_ifK_4, a_cons, a_consK_0, a_consK_1, a_consK_2, a_consK_3, a_consK_4, a_refA, a_refK_0, a_refK_1, a_refK_2, a_cb, a_tup, a_dLst, a_vals0, a_vals1, a_vals2, a_vals3, a_vals4, call_eq, callO_eq, a_call1, a_call2, a_call3, a_call4, a_rf0, a_rf1, a_rf2, a_rfK_0, a_rfK_1, a_rfK_2, a_end0_0, a_end0_1, a_end0_2, a_end0_3, a_end1, a_put1_0, a_put1_1, a_look, a_lkK_0, a_lkK_1, a_lkK_2, a_ixV, a_ixK_0, a_ixK_1, a_ixK_2, a_lenV, a_truV, a_len_0, a_len_1, a_len_2, a_len_3, a_len_4, a_it, a_rg1, a_rgL, a_en, a_zp, a_itK_0, a_itK_1, a_itK_2, a_itE_0, a_itE_1, a_comp, a_compK_0, a_compK_1, a_isi, a_gI_0, a_gI_1, a_gI_2, List.getElem?_cons_zero, List.getElem?_cons_succ, List.set_cons_zero, List.set_cons_succ, Option.bind_some, Option.map_some, f_nil, f_cons, f_some, f_nx, f_ct, f_bk, f_rt, f_ex, a_putV, a_pv0, a_pv1, a_put, a_sp0, a_sp1, a_sp2, a_sp3, a_sp4, a_app, a_sa1, a_sa2, a_aug, a_au1, a_au2, a_au3, gEq_int, gNe_int, ct_rf, ct_own, if_true, if_false, Bool.false_eq_true, a_try, a_tryK_0, a_tryK_1, a_tryK_2, a_tryH_0, a_tryH_1, a_tryK2_0, a_tryK2_1, a_hdS_0, a_hdS_1, a_compX, a_compKX_0, a_fld, a_meth, a_prop, a_propK, a_propE, a_make, a_makeK, a_makeE, a_putF, a_pfK, a_lkv, a_lkvK, a_dct1, a_dct1K, a_dct1K2, a_dct2, a_key, a_putK, a_pk0, a_pk1, a_pk2, a_rg2, a_rg2K, a_rg2K2, a_oL, hd, ix0, ix1, ix2, ix3', n4, x1, x2, x3, len_l, int1, big, bigv, ec, e1, e2, e4, eq, pm, p1]
      exact ⟨_, _, rfl, ⟨cs, p + 1, 0, t, rfl, ⟨H.pos, by omega, by omega, by omega, H.t0, H.t1, hl⟩⟩, lt_m q⟩
    · have e4 : decide (c < 1000000000000000000) = false := decide_eq_false hb
      have e5 : decide (0 < c) = true := decide_eq_true (by omega)
      simp -implicitDefEqProofs only [F__law_take, a_seq, a_expr, a_ret, a_retO, a_set, a_setO, a_if, a_unp, a_for, a_nil, a_retN, a_then_0, a_then_1, a_then_2, a_then_3, a_sK_0, a_sK_1, a_ifS_0, a_ifS_1, a_ifS_2, a_k_0, a_k_1, a_k_2, a_k_3, a_k_4, a_k_5, a_k_6, a_setV, a_setOd, a_setVK_0, a_setVK_1, a_setVK_2, a_setVK_3, a_setVK_4, a_setVK_5, a_c, a_var, a_varK_0, a_varK_1, a_bin, a_binK_0, a_binK_1, a_binK_2, a_binK_3, a_oE_0, a_oE_1, a_un, a_unK_0, a_unK_1, a_unK_2, a_unK_3, a_test, a_tru, a_not, a_asB_0, a_asB_1, a_asB_2, a_asB_3, a_lst_0, a_lst_1, a_and, a_or, a_andK_0, a_andK_1, a_andK_2, a_andK_3, a_andK_4, a_andK_5, a_dIf, a_tand, a_tor, a_tnot, a_ifK_0, a_ifK_1, a_ifK_2, a_ifK_3, a_ifK_4, a_cons, a_consK_0, a_consK_1, a_consK_2, a_consK_3, a_consK_4, a_refA, a_refK_0, a_refK_1, a_refK_2, a_cb, a_tup, a_dLst, a_vals0, a_vals1, a_vals2, a_vals3, a_vals4, call_eq, callO_eq, a_call1, a_call2, a_call3, a_call4, a_rf0, a_rf1, a_rf2, a_rfK_0, a_rfK_1, a_rfK_2, a_end0_0, a_end0_1, a_end0_2, a_end0_3, a_end1, a_put1_0, a_put1_1, a_look, a_lkK_0, a_lkK_1, a_lkK_2, a_ixV, a_ixK_0, a_ixK_1, a_ixK_2, a_lenV, a_truV, a_len_0, a_len_1, a_len_2, a_len_3, a_len_4, a_it, a_rg1, a_rgL, a_en, a_zp, a_itK_0, a_itK_1, a_itK_2, a_itE_0, a_itE_1, a_comp, a_compK_0, a_compK_1, a_isi, a_gI_0, a_gI_1, a_gI_2, List.getElem?_cons_zero, List.getElem?_cons_succ, List.set_cons_zero, List.set_cons_succ, Option.bind_some, Option.map_some, f_nil, f_cons, f_some, f_nx, f_ct, f_bk, f_rt, f_ex, a_putV, a_pv0, a_pv1, a_put, a_sp0, a_sp1, a_sp2, a_sp3, a_sp4, a_app, a_sa1, a_sa2, a_aug, a_au1, a_au2, a_au3, gEq_int, gNe_int, ct_rf, ct_own, if_true, if_false, Bool.false_eq_true, a_try, a_tryK_0, a_tryK_1, a_tryK_2, a_tryH_0, a_tryH_1, a_tryK2_0, a_tryK2_1, a_hdS_0, a_hdS_1, a_compX, a_compKX_0, a_fld, a_meth, a_prop, a_propK, a_propE, a_make, a_makeK, a_makeE, a_putF, a_pfK, a_lkv, a_lkvK, a_dct1, a_dct1K, a_dct1K2, a_dct2, a_key, a_putK, a_pk0, a_pk1, a_pk2, a_rg2, a_rg2K, a_rg2K2, a_oL, hd, ix0, ix1, ix2, ix3', n4, x1, x2, x3, len_l, int1, big, bigv, ec, e1, e2, e4, e5, pm, dm]
      exact ⟨_, _, rfl, ⟨cs, p + 1, c / m, t, rfl, ⟨H.pos, by omega, by omega, Int.ediv_nonneg c0 (by omega), H.t0, H.t1, hl⟩⟩, lt_m c⟩
  · have hskip : ((r == 0) = false) ∨ ((r == 0) = true ∧ decide (p < (((cs.map D.int).length : Nat) : Int)) = false) := by
      by_cases hr : r = 0
      · exact .inr ⟨by rw [hr]; rfl, decide_eq_false (by rw [List.length_map]; exact fun z => hA ⟨hr, z⟩)⟩
      · exact .inl (by simpa using hr)
    have r0 := H.r0
    by_cases hr : 0 < r
    · have e5 : decide (0 < r) = true := decide_eq_true hr
      rcases hskip with e1 | ⟨e1, e2⟩
      · simp -implicitDefEqProofs only [F__law_take, a_seq, a_expr, a_ret, a_retO, a_set, a_setO, a_if, a_unp, a_for, a_nil, a_retN, a_then_0, a_then_1, a_then_2, a_then_3, a_sK_0, a_sK_1, a_ifS_0, a_ifS_1, a_ifS_2, a_k_0, a_k_1, a_k_2, a_k_3, a_k_4, a_k_5, a_k_6, a_setV, a_setOd, a_setVK_0, a_setVK_1, a_setVK_2, a_setVK_3, a_setVK_4, a_setVK_5, a_c, a_var, a_varK_0, a_varK_1, a_bin, a_binK_0, a_binK_1, a_binK_2, a_binK_3, a_oE_0, a_oE_1, a_un, a_unK_0, a_unK_1, a_unK_2, a_unK_3, a_test, a_tru, a_not, a_asB_0, a_asB_1, a_asB_2, a_asB_3, a_lst_0, a_lst_1, a_and, a_or, a_andK_0, a_andK_1, a_andK_2, a_andK_3, a_andK_4, a_andK_5, a_dIf, a_tand, a_tor, a_tnot, a_ifK_0, a_ifK_1, a_ifK_2, a_ifK_3, a_ifK_4, a_cons, a_consK_0, a_consK_1, a_consK_2, a_consK_3, a_consK_4, a_refA, a_refK_0, a_refK_1, a_refK_2, a_cb, a_tup, a_dLst, a_vals0, a_vals1, a_vals2, a_vals3, a_vals4, call_eq, callO_eq, a_call1, a_call2, a_call3, a_call4, a_rf0, a_rf1, a_rf2, a_rfK_0, a_rfK_1, a_rfK_2, a_end0_0, a_end0_1, a_end0_2, a_end0_3, a_end1, a_put1_0, a_put1_1, a_look, a_lkK_0, a_lkK_1, a_lkK_2, a_ixV, a_ixK_0, a_ixK_1, a_ixK_2, a_lenV, a_truV, a_len_0, a_len_1, a_len_2, a_len_3, a_len_4, a_it, a_rg1, a_rgL, a_en, a_zp, a_itK_0, a_itK_1, a_itK_2, a_itE_0, a_itE_1, a_comp, a_compK_0, a_compK_1, a_isi, a_gI_0, a_gI_1, a_gI_2, List.getElem?_cons_zero, List.getElem?_cons_succ, List.set_cons_zero, List.set_cons_succ, Option.bind_some, Option.map_some, f_nil, f_cons, f_some, f_nx, f_ct, f_bk, f_rt, f_ex, a_putV, a_pv0, a_pv1, a_put, a_sp0, a_sp1, a_sp2, a_sp3, a_sp4, a_app, a_sa1, a_sa2, a_aug, a_au1, a_au2, a_au3, gEq_int, gNe_int, ct_rf, ct_own, if_true, if_false, Bool.false_eq_true, a_try, a_tryK_0, a_tryK_1, a_tryK_2, a_tryH_0, a_tryH_1, a_tryK2_0, a_tryK2_1, a_hdS_0, a_hdS_1, a_compX, a_compKX_0, a_fld, a_meth, a_prop, a_propK, a_propE, a_make, a_makeK, a_makeE, a_putF, a_pfK, a_lkv, a_lkvK, a_dct1, a_dct1K, a_dct1K2, a_dct2, a_key, a_putK, a_pk0, a_pk1, a_pk2, a_rg2, a_rg2K, a_rg2K2, a_oL, hd, ix0, ix1, ix2, ix3', n4, x1, x2, x3, len_l, int1, big, bigv, e1, e5, pm, dm]
        exact ⟨_, _, rfl, ⟨cs, p, r / m, t, rfl, ⟨H.pos, h0, h1, Int.ediv_nonneg r0 (by omega), H.t0, H.t1, hl⟩⟩, lt_m r⟩
      · simp -implicitDefEqProofs only [F__law_take, a_seq, a_expr, a_ret, a_retO, a_set, a_setO, a_if, a_unp, a_for, a_nil, a_retN, a_then_0, a_then_1, a_then_2, a_then_3, a_sK_0, a_sK_1, a_ifS_0, a_ifS_1, a_ifS_2, a_k_0, a_k_1, a_k_2, a_k_3, a_k_4, a_k_5, a_k_6, a_setV, a_setOd, a_setVK_0, a_setVK_1, a_setVK_2, a_setVK_3, a_setVK_4, a_setVK_5, a_c, a_var, a_varK_0, a_varK_1, a_bin, a_binK_0, a_binK_1, a_binK_2, a_binK_3, a_oE_0, a_oE_1, a_un, a_unK_0, a_unK_1, a_unK_2, a_unK_3, a_test, a_tru, a_not, a_asB_0, a_asB_1, a_asB_2, a_asB_3, a_lst_0, a_lst_1, a_and, a_or, a_andK_0, a_andK_1, a_andK_2, a_andK_3, a_andK_4, a_andK_5, a_dIf, a_tand, a_tor, a_tnot, a_ifK_0, a_ifK_1, a_ifK_2, a_ifK_3, a_ifK_4, a_cons, a_consK_0, a_consK_1, a_consK_2, a_consK_3, a_consK_4, a_refA, a_refK_0, a_refK_1, a_refK_2, a_cb, a_tup, a_dLst, a_vals0, a_vals1, a_vals2, a_vals3, a_vals4, call_eq, callO_eq, a_call1, a_call2, a_call3, a_call4, a_rf0, a_rf1, a_rf2, a_rfK_0, a_rfK_1, a_rfK_2, a_end0_0, a_end0_1, a_end0_2, a_end0_3, a_end1, a_put1_0, a_put1_1, a_look, a_lkK_0, a_lkK_1, a_lkK_2, a_ixV, a_ixK_0, a_ixK_1, a_ixK_2, a_lenV, a_truV, a_len_0, a_len_1, a_len_2, a_len_3, a_len_4, a_it, a_rg1, a_rgL, a_en, a_zp, a_itK_0, a_itK_1, a_itK_2, a_itE_0, a_itE_1, a_comp, a_compK_0, a_compK_1, a_isi, a_gI_0, a_gI_1, a_gI_2, List.getElem?_cons_zero, List.getElem?_cons_succ, List.set_cons_zero, List.set_cons_succ, Option.bind_some, Option.map_some, f_nil, f_cons, f_some, f_nx, f_ct, f_bk, f_rt, f_ex, a_putV, a_pv0, a_pv1, a_put, a_sp0, a_sp1, a_sp2, a_sp3, a_sp4, a_app, a_sa1, a_sa2, a_aug, a_au1, a_au2, a_au3, gEq_int, gNe_int, ct_rf, ct_own, if_true, if_false, Bool.false_eq_true, a_try, a_tryK_0, a_tryK_1, a_tryK_2, a_tryH_0, a_tryH_1, a_tryK2_0, a_tryK2_1, a_hdS_0, a_hdS_1, a_compX, a_compKX_0, a_fld, a_meth, a_prop, a_propK, a_propE, a_make, a_makeK, a_makeE, a_putF, a_pfK, a_lkv, a_lkvK, a_dct1, a_dct1K, a_dct1K2, a_dct2, a_key, a_putK, a_pk0, a_pk1, a_pk2, a_rg2, a_rg2K, a_rg2K2, a_oL, hd, ix0, ix1, ix2, ix3', n4, x1, x2, x3, len_l, int1, big, bigv, e1, e2, e5, pm, dm]
        exact ⟨_, _, rfl, ⟨cs, p, r / m, t, rfl, ⟨H.pos, h0, h1, Int.ediv_nonneg r0 (by omega), H.t0, H.t1, hl⟩⟩, lt_m r⟩
    · have e5 : decide (0 < r) = false := decide_eq_false hr
      have t0 := H.t0
      have t1 := H.t1
      obtain ⟨q, eq, q0, q1⟩ := mixed_ev ((t + 1) % 2147483549) p ⟨by omega, by omega⟩ ⟨by omega, by omega⟩
      rcases hskip with e1 | ⟨e1, e2⟩
      · simp -implicitDefEqProofs only [F__law_take, a_seq, a_expr, a_ret, a_retO, a_set, a_setO, a_if, a_unp, a_for, a_nil, a_retN, a_then_0, a_then_1, a_then_2, a_then_3, a_sK_0, a_sK_1, a_ifS_0, a_ifS_1, a_ifS_2, a_k_0, a_k_1, a_k_2, a_k_3, a_k_4, a_k_5, a_k_6, a_setV, a_setOd, a_setVK_0, a_setVK_1, a_setVK_2, a_setVK_3, a_setVK_4, a_setVK_5, a_c, a_var, a_varK_0, a_varK_1, a_bin, a_binK_0, a_binK_1, a_binK_2, a_binK_3, a_oE_0, a_oE_1, a_un, a_unK_0, a_unK_1, a_unK_2, a_unK_3, a_test, a_tru, a_not, a_asB_0, a_asB_1, a_asB_2, a_asB_3, a_lst_0, a_lst_1, a_and, a_or, a_andK_0, a_andK_1, a_andK_2, a_andK_3, a_andK_4, a_andK_5, a_dIf, a_tand, a_tor, a_tnot, a_ifK_0, a_ifK_1, a_ifK_2, a_ifK_3, a_ifK_4, a_cons, a_consK_0, a_consK_1, a_consK_2, a_consK_3, a_consK_4, a_refA, a_refK_0, a_refK_1, a_refK_2, a_cb, a_tup, a_dLst, a_vals0, a_vals1, a_vals2, a_vals3, a_vals4, call_eq, callO_eq, a_call1, a_call2, a_call3, a_call4, a_rf0, a_rf1, a_rf2, a_rfK_0, a_rfK_1, a_rfK_2, a_end0_0, a_end0_1, a_end0_2, a_end0_3, a_end1, a_put1_0, a_put1_1, a_look, a_lkK_0, a_lkK_1, a_lkK_2, a_ixV, a_ixK_0, a_ixK_1, a_ixK_2, a_lenV, a_truV, a_len_0, a_len_1, a_len_2, a_len_3, a_len_4, a_it, a_rg1, a_rgL, a_en, a_zp, a_itK_0, a_itK_1, a_itK_2, a_itE_0, a_itE_1, a_comp, a_compK_0, a_compK_1, a_isi, a_gI_0, a_gI_1, a_gI_2, List.getElem?_cons_zero, List.getElem?_cons_succ, List.set_cons_zero, List.set_cons_succ, Option.bind_some, Option.map_some, f_nil, f_cons, f_some, f_nx, f_ct, f_bk, f_rt, f_ex, a_putV, a_pv0, a_pv1, a_put, a_sp0, a_sp1, a_sp2, a_sp3, a_sp4, a_app, a_sa1, a_sa2, a_aug, a_au1, a_au2, a_au3, gEq_int, gNe_int, ct_rf, ct_own, if_true, if_false, Bool.false_eq_true, a_try, a_tryK_0, a_tryK_1, a_tryK_2, a_tryH_0, a_tryH_1, a_tryK2_0, a_tryK2_1, a_hdS_0, a_hdS_1, a_compX, a_compKX_0, a_fld, a_meth, a_prop, a_propK, a_propE, a_make, a_makeK, a_makeE, a_putF, a_pfK, a_lkv, a_lkvK, a_dct1, a_dct1K, a_dct1K2, a_dct2, a_key, a_putK, a_pk0, a_pk1, a_pk2, a_rg2, a_rg2K, a_rg2K2, a_oL, hd, ix0, ix1, ix2, ix3', n4, x1, x2, x3, len_l, int1, big, bigv, e1, e5, eq, pm, dm, p2]
        exact ⟨_, _, rfl, ⟨cs, p, r, (t + 1) % 2147483549, rfl, ⟨H.pos, h0, h1, r0, by omega, by omega, hl⟩⟩, lt_m q⟩
      · simp -implicitDefEqProofs only [F__law_take, a_seq, a_expr, a_ret, a_retO, a_set, a_setO, a_if, a_unp, a_for, a_nil, a_retN, a_then_0, a_then_1, a_then_2, a_then_3, a_sK_0, a_sK_1, a_ifS_0, a_ifS_1, a_ifS_2, a_k_0, a_k_1, a_k_2, a_k_3, a_k_4, a_k_5, a_k_6, a_setV, a_setOd, a_setVK_0, a_setVK_1, a_setVK_2, a_setVK_3, a_setVK_4, a_setVK_5, a_c, a_var, a_varK_0, a_varK_1, a_bin, a_binK_0, a_binK_1, a_binK_2, a_binK_3, a_oE_0, a_oE_1, a_un, a_unK_0, a_unK_1, a_unK_2, a_unK_3, a_test, a_tru, a_not, a_asB_0, a_asB_1, a_asB_2, a_asB_3, a_lst_0, a_lst_1, a_and, a_or, a_andK_0, a_andK_1, a_andK_2, a_andK_3, a_andK_4, a_andK_5, a_dIf, a_tand, a_tor, a_tnot, a_ifK_0, a_ifK_1, a_ifK_2, a_ifK_3, a_ifK_4, a_cons, a_consK_0, a_consK_1, a_consK_2, a_consK_3, a_consK_4, a_refA, a_refK_0, a_refK_1, a_refK_2, a_cb, a_tup, a_dLst, a_vals0, a_vals1, a_vals2, a_vals3, a_vals4, call_eq, callO_eq, a_call1, a_call2, a_call3, a_call4, a_rf0, a_rf1, a_rf2, a_rfK_0, a_rfK_1, a_rfK_2, a_end0_0, a_end0_1, a_end0_2, a_end0_3, a_end1, a_put1_0, a_put1_1, a_look, a_lkK_0, a_lkK_1, a_lkK_2, a_ixV, a_ixK_0, a_ixK_1, a_ixK_2, a_lenV, a_truV, a_len_0, a_len_1, a_len_2, a_len_3, a_len_4, a_it, a_rg1, a_rgL, a_en, a_zp, a_itK_0, a_itK_1, a_itK_2, a_itE_0, a_itE_1, a_comp, a_compK_0, a_compK_1, a_isi, a_gI_0, a_gI_1, a_gI_2, List.getElem?_cons_zero, List.getElem?_cons_succ, List.set_cons_zero, List.set_cons_succ, Option.bind_some, Option.map_some, f_nil, f_cons, f_some, f_nx, f_ct, f_bk, f_rt, f_ex, a_putV, a_pv0, a_pv1, a_put, a_sp0, a_sp1, a_sp2, a_sp3, a_sp4, a_app, a_sa1, a_sa2, a_aug, a_au1, a_au2, a_au3, gEq_int, gNe_int, ct_rf, ct_own, if_true, if_false, Bool.false_eq_true, a_try, a_tryK_0, a_tryK_1, a_tryK_2, a_tryH_0, a_tryH_1, a_tryK2_0, a_tryK2_1, a_hdS_0, a_hdS_1, a_compX, a_compKX_0, a_fld, a_meth, a_prop, a_propK, a_propE, a_make, a_makeK, a_makeE, a_putF, a_pfK, a_lkv, a_lkvK, a_dct1, a_dct1K, a_dct1K2, a_dct2, a_key, a_putK, a_pk0, a_pk1, a_pk2, a_rg2, a_rg2K, a_rg2K2, a_oL, hd, ix0, ix1, ix2, ix3', n4, x1, x2, x3, len_l, int1, big, bigv, e1, e2, e5, eq, pm, dm, p2]
        exact ⟨_, _, rfl, ⟨cs, p, r, (t + 1) % 2147483549, rfl, ⟨H.pos, h0, h1, r0, by omega, by omega, hl⟩⟩, lt_m q⟩
theorem take_nat (d : D) (m : Nat) (h : Hand d) (hm : 0 < m) (hm2 : m ≤ 4096) : ∃ (t : Nat) (d' : D), fn__law_take [d, .int (m : Int)] = .ret (.int (t : Int)) [d'] ∧ Hand d' ∧ t < m := by
  obtain ⟨r, d', e, h', h0, h1⟩ := take_ev d (m : Int) h (by omega) (by omega)
  obtain ⟨t, rfl⟩ := Int.eq_ofNat_of_zero_le h0
  exact ⟨t, d', e, h', by omega⟩
theorem list_ev (d : D) (ds : List D) (h : Hand d) : ∃ (q : Bool) (d' : D), fn__law_list [d, .lst ds] = .ret (sq q ds) [d'] ∧ Hand d' := by
  obtain ⟨t, d1, e, hd1, ht⟩ := take_nat d 2 h (by decide) (by decide)
  have e : fn__law_take [d, .int 2] = .ret (.int (t : Int)) [d1] := e
  have g1 : gList [.lst ds] = some (.lst ds) := rfl
  have g2 : gTuple [.lst ds] = some (.tup ds) := rfl
  rw [o__law_list]
  by_cases t0 : t = 0
  · subst t0
    refine ⟨true, d1, ?_, hd1⟩
    simp -implicitDefEqProofs only [F__law_list, a_seq, a_expr, a_ret, a_retO, a_set, a_setO, a_if, a_unp, a_for, a_nil, a_retN, a_then_0, a_then_1, a_then_2, a_then_3, a_sK_0, a_sK_1, a_ifS_0, a_ifS_1, a_ifS_2, a_k_0, a_k_1, a_k_2, a_k_3, a_k_4, a_k_5, a_k_6, a_setV, a_setOd, a_setVK_0, a_setVK_1, a_setVK_2, a_setVK_3, a_setVK_4, a_setVK_5, a_c, a_var, a_varK_0, a_varK_1, a_bin, a_binK_0, a_binK_1, a_binK_2, a_binK_3, a_oE_0, a_oE_1, a_un, a_unK_0, a_unK_1, a_unK_2, a_unK_3, a_test, a_tru, a_not, a_asB_0, a_asB_1, a_asB_2, a_asB_3, a_lst_0, a_lst_1, a_and, a_or, a_andK_0, a_andK_1, a_andK_2, a_andK_3, a_andK_4, a_andK_5, a_dIf, a_tand, a_tor, a_tnot, a_ifK_0, a_ifK_1, a_ifK_2, a_ifK_3, a_ifK_4, a_cons, a_consK_0, a_consK_1, a_consK_2, a_consK_3, a_consK_4, a_refA, a_refK_0, a_refK_1, a_refK_2, a_cb, a_tup, a_dLst, a_vals0, a_vals1, a_vals2, a_vals3, a_vals4, call_eq, callO_eq, a_call1, a_call2, a_call3, a_call4, a_rf0, a_rf1, a_rf2, a_rfK_0, a_rfK_1, a_rfK_2, a_end0_0, a_end0_1, a_end0_2, a_end0_3, a_end1, a_put1_0, a_put1_1, a_look, a_lkK_0, a_lkK_1, a_lkK_2, a_ixV, a_ixK_0, a_ixK_1, a_ixK_2, a_lenV, a_truV, a_len_0, a_len_1, a_len_2, a_len_3, a_len_4, a_it, a_rg1, a_rgL, a_en, a_zp, a_itK_0, a_itK_1, a_itK_2, a_itE_0, a_itE_1, a_comp, a_compK_0, a_compK_1, a_isi, a_gI_0, a_gI_1, a_gI_2, List.getElem?_cons_zero, List.getElem?_cons_succ, List.set_cons_zero, List.set_cons_succ, Option.bind_some, Option.map_some, f_nil, f_cons, f_some, f_nx, f_ct, f_bk, f_rt, f_ex, a_putV, a_pv0, a_pv1, a_put, a_sp0, a_sp1, a_sp2, a_sp3, a_sp4, a_app, a_sa1, a_sa2, a_aug, a_au1, a_au2, a_au3, gEq_int, gNe_int, ct_rf, ct_own, if_true, if_false, Bool.false_eq_true, a_try, a_tryK_0, a_tryK_1, a_tryK_2, a_tryH_0, a_tryH_1, a_tryK2_0, a_tryK2_1, a_hdS_0, a_hdS_1, a_compX, a_compKX_0, a_fld, a_meth, a_prop, a_propK, a_propE, a_make, a_makeK, a_makeE, a_putF, a_pfK, a_lkv, a_lkvK, a_dct1, a_dct1K, a_dct1K2, a_dct2, a_key, a_putK, a_pk0, a_pk1, a_pk2, a_rg2, a_rg2K, a_rg2K2, a_oL, e, nz0, g2]
    rfl
  · refine ⟨false, d1, ?_, hd1⟩
    simp -implicitDefEqProofs only [F__law_list, a_seq, a_expr, a_ret, a_retO, a_set, a_setO, a_if, a_unp, a_for, a_nil, a_retN, a_then_0, a_then_1, a_then_2, a_then_3, a_sK_0, a_sK_1, a_ifS_0, a_ifS_1, a_ifS_2, a_k_0, a_k_1, a_k_2, a_k_3, a_k_4, a_k_5, a_k_6, a_setV, a_setOd, a_setVK_0, a_setVK_1, a_setVK_2, a_setVK_3, a_setVK_4, a_setVK_5, a_c, a_var, a_varK_0, a_varK_1, a_bin, a_binK_0, a_binK_1, a_binK_2, a_binK_3, a_oE_0, a_oE_1, a_un, a_unK_0, a_unK_1, a_unK_2, a_unK_3, a_test, a_tru, a_not, a_asB_0, a_asB_1, a_asB_2, a_asB_3, a_lst_0, a_lst_1, a_and, a_or, a_andK_0, a_andK_1, a_andK_2, a_andK_3, a_andK_4, a_andK_5, a_dIf, a_tand, a_tor, a_tnot, a_ifK_0, a_ifK_1, a_ifK_2, a_ifK_3, a_ifK_4, a_cons, a_consK_0, a_consK_1, a_consK_2, a_consK_3, a_consK_4, a_refA, a_refK_0, a_refK_1, a_refK_2, a_cb, a_tup, a_dLst, a_vals0, a_vals1, a_vals2, a_vals3, a_vals4, call_eq, callO_eq, a_call1, a_call2, a_call3, a_call4, a_rf0, a_rf1, a_rf2, a_rfK_0, a_rfK_1, a_rfK_2, a_end0_0, a_end0_1, a_end0_2, a_end0_3, a_end1, a_put1_0, a_put1_1, a_look, a_lkK_0, a_lkK_1, a_lkK_2, a_ixV, a_ixK_0, a_ixK_1, a_ixK_2, a_lenV, a_truV, a_len_0, a_len_1, a_len_2, a_len_3, a_len_4, a_it, a_rg1, a_rgL, a_en, a_zp, a_itK_0, a_itK_1, a_itK_2, a_itE_0, a_itE_1, a_comp, a_compK_0, a_compK_1, a_isi, a_gI_0, a_gI_1, a_gI_2, List.getElem?_cons_zero, List.getElem?_cons_succ, List.set_cons_zero, List.set_cons_succ, Option.bind_some, Option.map_some, f_nil, f_cons, f_some, f_nx, f_ct, f_bk, f_rt, f_ex, a_putV, a_pv0, a_pv1, a_put, a_sp0, a_sp1, a_sp2, a_sp3, a_sp4, a_app, a_sa1, a_sa2, a_aug, a_au1, a_au2, a_au3, gEq_int, gNe_int, ct_rf, ct_own, if_true, if_false, Bool.false_eq_true, a_try, a_tryK_0, a_tryK_1, a_tryK_2, a_tryH_0, a_tryH_1, a_tryK2_0, a_tryK2_1, a_hdS_0, a_hdS_1, a_compX, a_compKX_0, a_fld, a_meth, a_prop, a_propK, a_propE, a_make, a_makeK, a_makeE, a_putF, a_pfK, a_lkv, a_lkvK, a_dct1, a_dct1K, a_dct1K2, a_dct2, a_key, a_putK, a_pk0, a_pk1, a_pk2, a_rg2, a_rg2K, a_rg2K2, a_oL, e, nz t t0, g1]
    rfl
end LW

set_option maxRecDepth 100000
set_option maxHeartbeats 2000000
namespace LW
open PySem PySem.Spec PyProof.Rows L2 DL
theorem next_loop (s : D) (l : Nat) : ∀ (r : List Nat) (i acc : Nat) (s3 s4 : Sl), Nr s3 → Nr s4 → ∃ s3' s4',
    forL (dUnp [3, 4]) B_next_lot_0 (enumD i (rowD r)) [.val s, .val (.int (l : Int)), .val (.int (acc : Int)), s3, s4] = .nx [.val s, .val (.int (l : Int)), .val (.int (nx r l i acc : Nat)), s3', s4']
  | [], i, acc, s3, s4, h3, h4 => ⟨s3, s4, rfl⟩
  | a :: r, i, acc, s3, s4, h3, h4 => by
    obtain ⟨s3', s4', e⟩ := next_loop s l r (i + 1) (if l.testBit i then acc ||| a else acc) (.val (.int (i : Int))) (.val (.int (a : Int))) (nr_val _) (nr_val _)
    refine ⟨s3', s4', ?_⟩
    show forL _ _ (.tup [.int (i : Int), .int (a : Int)] :: enumD (i + 1) (rowD r)) _ = _
    rw [nx, ← e]
    cases hb : l.testBit i with
    | true => simp -implicitDefEqProofs only [a_seq, a_expr, a_ret, a_retO, a_set, a_setO, a_if, a_unp, a_for, a_nil, a_retN, a_then_0, a_then_1, a_then_2, a_then_3, a_sK_0, a_sK_1, a_ifS_0, a_ifS_1, a_ifS_2, a_k_0, a_k_1, a_k_2, a_k_3, a_k_4, a_k_5, a_k_6, a_setV, a_setOd, a_setVK_0, a_setVK_1, a_setVK_2, a_setVK_3, a_setVK_4, a_setVK_5, a_c, a_var, a_varK_0, a_varK_1, a_bin, a_binK_0, a_binK_1, a_binK_2, a_binK_3, a_oE_0, a_oE_1, a_un, a_unK_0, a_unK_1, a_unK_2, a_unK_3, a_test, a_tru, a_not, a_asB_0, a_asB_1, a_asB_2, a_asB_3, a_lst_0, a_lst_1, a_and, a_or, a_andK_0, a_andK_1, a_andK_2, a_andK_3, a_andK_4, a_andK_5, a_dIf, a_tand, a_tor, a_tnot, a_ifK_0, a_ifK_1, a_ifK_2, a_ifK_3, a_ifK_4, a_cons, a_consK_0, a_consK_1, a_consK_2, a_consK_3, a_consK_4, a_refA, a_refK_0, a_refK_1, a_refK_2, a_cb, a_tup, a_dLst, a_vals0, a_vals1, a_vals2, a_vals3, a_vals4, call_eq, callO_eq, a_call1, a_call2, a_call3, a_call4, a_rf0, a_rf1, a_rf2, a_rfK_0, a_rfK_1, a_rfK_2, a_end0_0, a_end0_1, a_end0_2, a_end0_3, a_end1, a_put1_0, a_put1_1, a_look, a_lkK_0, a_lkK_1, a_lkK_2, a_ixV, a_ixK_0, a_ixK_1, a_ixK_2, a_lenV, a_truV, a_len_0, a_len_1, a_len_2, a_len_3, a_len_4, a_it, a_rg1, a_rgL, a_en, a_zp, a_itK_0, a_itK_1, a_itK_2, a_itE_0, a_itE_1, a_comp, a_compK_0, a_compK_1, a_isi, a_gI_0, a_gI_1, a_gI_2, List.getElem?_cons_zero, List.getElem?_cons_succ, List.set_cons_zero, List.set_cons_succ, Option.bind_some, Option.map_some, f_nil, f_cons, f_some, f_nx, f_ct, f_bk, f_rt, f_ex, a_putV, a_pv0, a_pv1, a_put, a_sp0, a_sp1, a_sp2, a_sp3, a_sp4, a_app, a_sa1, a_sa2, a_aug, a_au1, a_au2, a_au3, gEq_int, gNe_int, ct_rf, ct_own, if_true, if_false, Bool.false_eq_true, a_try, a_tryK_0, a_tryK_1, a_tryK_2, a_tryH_0, a_tryH_1, a_tryK2_0, a_tryK2_1, a_hdS_0, a_hdS_1, a_compX, a_compKX_0, a_fld, a_meth, a_prop, a_propK, a_propE, a_make, a_makeK, a_makeE, a_putF, a_pfK, a_lkv, a_lkvK, a_dct1, a_dct1K, a_dct1K2, a_dct2, a_key, a_putK, a_pk0, a_pk1, a_pk2, a_rg2, a_rg2K, a_rg2K2, a_oL, unp2, set_nr h3, set_nr h4, B_next_lot_0, cnn, tb, hb, bor]
    | false => simp -implicitDefEqProofs only [a_seq, a_expr, a_ret, a_retO, a_set, a_setO, a_if, a_unp, a_for, a_nil, a_retN, a_then_0, a_then_1, a_then_2, a_then_3, a_sK_0, a_sK_1, a_ifS_0, a_ifS_1, a_ifS_2, a_k_0, a_k_1, a_k_2, a_k_3, a_k_4, a_k_5, a_k_6, a_setV, a_setOd, a_setVK_0, a_setVK_1, a_setVK_2, a_setVK_3, a_setVK_4, a_setVK_5, a_c, a_var, a_varK_0, a_varK_1, a_bin, a_binK_0, a_binK_1, a_binK_2, a_binK_3, a_oE_0, a_oE_1, a_un, a_unK_0, a_unK_1, a_unK_2, a_unK_3, a_test, a_tru, a_not, a_asB_0, a_asB_1, a_asB_2, a_asB_3, a_lst_0, a_lst_1, a_and, a_or, a_andK_0, a_andK_1, a_andK_2, a_andK_3, a_andK_4, a_andK_5, a_dIf, a_tand, a_tor, a_tnot, a_ifK_0, a_ifK_1, a_ifK_2, a_ifK_3, a_ifK_4, a_cons, a_consK_0, a_consK_1, a_consK_2, a_consK_3, a_consK_4, a_refA, a_refK_0, a_refK_1, a_refK_2, a_cb, a_tup, a_dLst, a_vals0, a_vals1, a_vals2, a_vals3, a_vals4, call_eq, callO_eq, a_call1, a_call2, a_call3, a_call4, a_rf0, a_rf1, a_rf2, a_rfK_0, a_rfK_1, a_rfK_2, a_end0_0, a_end0_1, a_end0_2, a_end0_3, a_end1, a_put1_0, a_put1_1, a_look, a_lkK_0, a_lkK_1, a_lkK_2, a_ixV, a_ixK_0, a_ixK_1, a_ixK_2, a_lenV, a_truV, a_len_0, a_len_1, a_len_2, a_len_3, a_len_4, a_it, a_rg1, a_rgL, a_en, a_zp, a_itK_0, a_itK_1, a_itK_2, a_itE_0, a_itE_1, a_comp, a_compK_0, a_compK_1, a_isi, a_gI_0, a_gI_1, a_gI_2, List.getElem?_cons_zero, List.getElem?_cons_succ, List.set_cons_zero, List.set_cons_succ, Option.bind_some, Option.map_some, f_nil, f_cons, f_some, f_nx, f_ct, f_bk, f_rt, f_ex, a_putV, a_pv0, a_pv1, a_put, a_sp0, a_sp1, a_sp2, a_sp3, a_sp4, a_app, a_sa1, a_sa2, a_aug, a_au1, a_au2, a_au3, gEq_int, gNe_int, ct_rf, ct_own, if_true, if_false, Bool.false_eq_true, a_try, a_tryK_0, a_tryK_1, a_tryK_2, a_tryH_0, a_tryH_1, a_tryK2_0, a_tryK2_1, a_hdS_0, a_hdS_1, a_compX, a_compKX_0, a_fld, a_meth, a_prop, a_propK, a_propE, a_make, a_makeK, a_makeE, a_putF, a_pfK, a_lkv, a_lkvK, a_dct1, a_dct1K, a_dct1K2, a_dct2, a_key, a_putK, a_pk0, a_pk1, a_pk2, a_rg2, a_rg2K, a_rg2K2, a_oL, unp2, set_nr h3, set_nr h4, B_next_lot_0, cnn, tb, hb]
theorem next_ev (q : Bool) (r : List Nat) (l : Nat) : fn_next_lot [sq q (rowD r), .int (l : Int)] = .ret (.int (Nx r l : Nat)) [] := by
  show toFO [false, false] (F_next_lot [.val (sq q (rowD r)), .val (.int (l : Int)), .un, .un, .un]) = _
  obtain ⟨s3', s4', e⟩ := next_loop (sq q (rowD r)) l r 0 0 .un .un nr_un nr_un
  have e : forL (dUnp [3, 4]) B_next_lot_0 (enumD 0 (rowD r)) [.val (sq q (rowD r)), .val (.int (l : Int)), .val (.int 0), .un, .un] = _ := e
  simp -implicitDefEqProofs only [F_next_lot, a_seq, a_set, a_c, a_sK_0, a_k_3, a_k_6, a_then_0, a_setV, a_setVK_0, List.getElem?_cons_zero, List.getElem?_cons_succ, List.set_cons_zero, List.set_cons_succ, a_for, a_en, a_var, a_varK_0, sq_en, a_compK_1, e]
  rfl
theorem back_loop (s : D) (l : Nat) : ∀ (r : List Nat) (i acc : Nat) (s3 s4 : Sl), i + r.length ≤ 64 → Nr s3 → Nr s4 → ∃ s3' s4',
    forL (dUnp [3, 4]) B_back_lot_0 (enumD i (rowD r)) [.val s, .val (.int (l : Int)), .val (.int (acc : Int)), s3, s4] = .nx [.val s, .val (.int (l : Int)), .val (.int (bk r l i acc : Nat)), s3', s4']
  | [], i, acc, s3, s4, _, h3, h4 => ⟨s3, s4, rfl⟩
  | a :: r, i, acc, s3, s4, hl, h3, h4 => by
    have hl' : i + (r.length + 1) ≤ 64 := hl
    obtain ⟨s3', s4', e⟩ := back_loop s l r (i + 1) (if a &&& l = a then acc ||| 2 ^ i else acc) (.val (.int (i : Int))) (.val (.int (a : Int))) (by omega) (nr_val _) (nr_val _)
    refine ⟨s3', s4', ?_⟩
    show forL _ _ (.tup [.int (i : Int), .int (a : Int)] :: enumD (i + 1) (rowD r)) _ = _
    rw [bk, ← e]
    have un : gU Builtin.bitNot (.int (l : Int)) = some (.int (Builtin.bitNot (l : Int))) := rfl
    have cp : cPow 1 (i : Int) = true := cpw (by omega)
    by_cases hb : a &&& l = a
    · simp -implicitDefEqProofs only [a_seq, a_expr, a_ret, a_retO, a_set, a_setO, a_if, a_unp, a_for, a_nil, a_retN, a_then_0, a_then_1, a_then_2, a_then_3, a_sK_0, a_sK_1, a_ifS_0, a_ifS_1, a_ifS_2, a_k_0, a_k_1, a_k_2, a_k_3, a_k_4, a_k_5, a_k_6, a_setV, a_setOd, a_setVK_0, a_setVK_1, a_setVK_2, a_setVK_3, a_setVK_4, a_setVK_5, a_c, a_var, a_varK_0, a_varK_1, a_bin, a_binK_0, a_binK_1, a_binK_2, a_binK_3, a_oE_0, a_oE_1, a_un, a_unK_0, a_unK_1, a_unK_2, a_unK_3, a_test, a_tru, a_not, a_asB_0, a_asB_1, a_asB_2, a_asB_3, a_lst_0, a_lst_1, a_and, a_or, a_andK_0, a_andK_1, a_andK_2, a_andK_3, a_andK_4, a_andK_5, a_dIf, a_tand, a_tor, a_tnot, a_ifK_0, a_ifK_1, a_ifK_2, a_ifK_3, a_ifK_4, a_cons, a_consK_0, a_consK_1, a_consK_2, a_consK_3, a_consK_4, a_refA, a_refK_0, a_refK_1, a_refK_2, a_cb, a_tup, a_dLst, a_vals0, a_vals1, a_vals2, a_vals3, a_vals4, call_eq, callO_eq, a_call1, a_call2, a_call3, a_call4, a_rf0, a_rf1, a_rf2, a_rfK_0, a_rfK_1, a_rfK_2, a_end0_0, a_end0_1, a_end0_2, a_end0_3, a_end1, a_put1_0, a_put1_1, a_look, a_lkK_0, a_lkK_1, a_lkK_2, a_ixV, a_ixK_0, a_ixK_1, a_ixK_2, a_lenV, a_truV, a_len_0, a_len_1, a_len_2, a_len_3, a_len_4, a_it, a_rg1, a_rgL, a_en, a_zp, a_itK_0, a_itK_1, a_itK_2, a_itE_0, a_itE_1, a_comp, a_compK_0, a_compK_1, a_isi, a_gI_0, a_gI_1, a_gI_2, List.getElem?_cons_zero, List.getElem?_cons_succ, List.set_cons_zero, List.set_cons_succ, Option.bind_some, Option.map_some, f_nil, f_cons, f_some, f_nx, f_ct, f_bk, f_rt, f_ex, a_putV, a_pv0, a_pv1, a_put, a_sp0, a_sp1, a_sp2, a_sp3, a_sp4, a_app, a_sa1, a_sa2, a_aug, a_au1, a_au2, a_au3, gEq_int, gNe_int, ct_rf, ct_own, if_true, if_false, Bool.false_eq_true, a_try, a_tryK_0, a_tryK_1, a_tryK_2, a_tryH_0, a_tryH_1, a_tryK2_0, a_tryK2_1, a_hdS_0, a_hdS_1, a_compX, a_compKX_0, a_fld, a_meth, a_prop, a_propK, a_propE, a_make, a_makeK, a_makeE, a_putF, a_pfK, a_lkv, a_lkvK, a_dct1, a_dct1K, a_dct1K2, a_dct2, a_key, a_putK, a_pk0, a_pk1, a_pk2, a_rg2, a_rg2K, a_rg2K2, a_oL, unp2, set_nr h3, set_nr h4, B_back_lot_0, un, wib, hb, decide_true, cp, shl1, bor]
    · simp -implicitDefEqProofs only [a_seq, a_expr, a_ret, a_retO, a_set, a_setO, a_if, a_unp, a_for, a_nil, a_retN, a_then_0, a_then_1, a_then_2, a_then_3, a_sK_0, a_sK_1, a_ifS_0, a_ifS_1, a_ifS_2, a_k_0, a_k_1, a_k_2, a_k_3, a_k_4, a_k_5, a_k_6, a_setV, a_setOd, a_setVK_0, a_setVK_1, a_setVK_2, a_setVK_3, a_setVK_4, a_setVK_5, a_c, a_var, a_varK_0, a_varK_1, a_bin, a_binK_0, a_binK_1, a_binK_2, a_binK_3, a_oE_0, a_oE_1, a_un, a_unK_0, a_unK_1, a_unK_2, a_unK_3, a_test, a_tru, a_not, a_asB_0, a_asB_1, a_asB_2, a_asB_3, a_lst_0, a_lst_1, a_and, a_or, a_andK_0, a_andK_1, a_andK_2, a_andK_3, a_andK_4, a_andK_5, a_dIf, a_tand, a_tor, a_tnot, a_ifK_0, a_ifK_1, a_ifK_2, a_ifK_3, a_ifK_4, a_cons, a_consK_0, a_consK_1, a_consK_2, a_consK_3, a_consK_4, a_refA, a_refK_0, a_refK_1, a_refK_2, a_cb, a_tup, a_dLst, a_vals0, a_vals1, a_vals2, a_vals3, a_vals4, call_eq, callO_eq, a_call1, a_call2, a_call3, a_call4, a_rf0, a_rf1, a_rf2, a_rfK_0, a_rfK_1, a_rfK_2, a_end0_0, a_end0_1, a_end0_2, a_end0_3, a_end1, a_put1_0, a_put1_1, a_look, a_lkK_0, a_lkK_1, a_lkK_2, a_ixV, a_ixK_0, a_ixK_1, a_ixK_2, a_lenV, a_truV, a_len_0, a_len_1, a_len_2, a_len_3, a_len_4, a_it, a_rg1, a_rgL, a_en, a_zp, a_itK_0, a_itK_1, a_itK_2, a_itE_0, a_itE_1, a_comp, a_compK_0, a_compK_1, a_isi, a_gI_0, a_gI_1, a_gI_2, List.getElem?_cons_zero, List.getElem?_cons_succ, List.set_cons_zero, List.set_cons_succ, Option.bind_some, Option.map_some, f_nil, f_cons, f_some, f_nx, f_ct, f_bk, f_rt, f_ex, a_putV, a_pv0, a_pv1, a_put, a_sp0, a_sp1, a_sp2, a_sp3, a_sp4, a_app, a_sa1, a_sa2, a_aug, a_au1, a_au2, a_au3, gEq_int, gNe_int, ct_rf, ct_own, if_true, if_false, Bool.false_eq_true, a_try, a_tryK_0, a_tryK_1, a_tryK_2, a_tryH_0, a_tryH_1, a_tryK2_0, a_tryK2_1, a_hdS_0, a_hdS_1, a_compX, a_compKX_0, a_fld, a_meth, a_prop, a_propK, a_propE, a_make, a_makeK, a_makeE, a_putF, a_pfK, a_lkv, a_lkvK, a_dct1, a_dct1K, a_dct1K2, a_dct2, a_key, a_putK, a_pk0, a_pk1, a_pk2, a_rg2, a_rg2K, a_rg2K2, a_oL, unp2, set_nr h3, set_nr h4, B_back_lot_0, un, wib, hb, decide_false, cp, shl1, bor]
theorem back_ev (q : Bool) (r : List Nat) (l : Nat) (h : r.length ≤ 63) : fn_back_lot [sq q (rowD r), .int (l : Int)] = .ret (.int (Bk r l : Nat)) [] := by
  show toFO [false, false] (F_back_lot [.val (sq q (rowD r)), .val (.int (l : Int)), .un, .un, .un]) = _
  obtain ⟨s3', s4', e⟩ := back_loop (sq q (rowD r)) l r 0 0 .un .un (by omega) nr_un nr_un
  have e : forL (dUnp [3, 4]) B_back_lot_0 (enumD 0 (rowD r)) [.val (sq q (rowD r)), .val (.int (l : Int)), .val (.int 0), .un, .un] = _ := e
  simp -implicitDefEqProofs only [F_back_lot, a_seq, a_set, a_c, a_sK_0, a_k_3, a_k_6, a_then_0, a_setV, a_setVK_0, List.getElem?_cons_zero, List.getElem?_cons_succ, List.set_cons_zero, List.set_cons_succ, a_for, a_en, a_var, a_varK_0, sq_en, a_compK_1, e]
  rfl
end LW

set_option maxRecDepth 100000
set_option maxHeartbeats 2000000
namespace LW
open PySem PySem.Spec PyProof.Rows L2 DL
theorem ix_row {all : List Nat} {i a : Nat} (q : Bool) (h : all[i]? = some a) : idxD (sq q (rowD all)) (.int ((i : Nat) : Int)) = some (.int ((a : Nat) : Int)) := by
  have e : (rowD all)[i]? = some (.int ((a : Nat) : Int)) := by unfold rowD; rw [List.getElem?_map, h]; rfl
  cases q <;> exact atI_nat e
theorem lnext_loop (all : List Nat) (l : Nat) : ∀ (r : List Nat) (i acc : Nat) (s3 : Sl), all.drop i = r → Nr s3 → ∃ s3',
    forL (setV 3) B__law_next_0 (rgF i r.length) [.val (sq false (rowD all)), .val (.int (l : Int)), .val (.int (acc : Int)), s3] = .nx [.val (sq false (rowD all)), .val (.int (l : Int)), .val (.int (nx r l i acc : Nat)), s3']
  | [], i, acc, s3, _, h3 => ⟨s3, rfl⟩
  | a :: r, i, acc, s3, hd, h3 => by
    obtain ⟨e1, e2⟩ := drop_at hd
    obtain ⟨s3', e⟩ := lnext_loop all l r (i + 1) (if l.testBit i then acc ||| a else acc) (.val (.int (i : Int))) e2 (nr_val _)
    refine ⟨s3', ?_⟩
    have ei := ix_row false e1
    rw [show (a :: r).length = r.length + 1 from rfl, rgF_succ, nx, ← e]
    cases hb : l.testBit i with
    | true => simp -implicitDefEqProofs only [a_seq, a_expr, a_ret, a_retO, a_set, a_setO, a_if, a_unp, a_for, a_nil, a_retN, a_then_0, a_then_1, a_then_2, a_then_3, a_sK_0, a_sK_1, a_ifS_0, a_ifS_1, a_ifS_2, a_k_0, a_k_1, a_k_2, a_k_3, a_k_4, a_k_5, a_k_6, a_setV, a_setOd, a_setVK_0, a_setVK_1, a_setVK_2, a_setVK_3, a_setVK_4, a_setVK_5, a_c, a_var, a_varK_0, a_varK_1, a_bin, a_binK_0, a_binK_1, a_binK_2, a_binK_3, a_oE_0, a_oE_1, a_un, a_unK_0, a_unK_1, a_unK_2, a_unK_3, a_test, a_tru, a_not, a_asB_0, a_asB_1, a_asB_2, a_asB_3, a_lst_0, a_lst_1, a_and, a_or, a_andK_0, a_andK_1, a_andK_2, a_andK_3, a_andK_4, a_andK_5, a_dIf, a_tand, a_tor, a_tnot, a_ifK_0, a_ifK_1, a_ifK_2, a_ifK_3, a_ifK_4, a_cons, a_consK_0, a_consK_1, a_consK_2, a_consK_3, a_consK_4, a_refA, a_refK_0, a_refK_1, a_refK_2, a_cb, a_tup, a_dLst, a_vals0, a_vals1, a_vals2, a_vals3, a_vals4, call_eq, callO_eq, a_call1, a_call2, a_call3, a_call4, a_rf0, a_rf1, a_rf2, a_rfK_0, a_rfK_1, a_rfK_2, a_end0_0, a_end0_1, a_end0_2, a_end0_3, a_end1, a_put1_0, a_put1_1, a_look, a_lkK_0, a_lkK_1, a_lkK_2, a_ixV, a_ixK_0, a_ixK_1, a_ixK_2, a_lenV, a_truV, a_len_0, a_len_1, a_len_2, a_len_3, a_len_4, a_it, a_rg1, a_rgL, a_en, a_zp, a_itK_0, a_itK_1, a_itK_2, a_itE_0, a_itE_1, a_comp, a_compK_0, a_compK_1, a_isi, a_gI_0, a_gI_1, a_gI_2, List.getElem?_cons_zero, List.getElem?_cons_succ, List.set_cons_zero, List.set_cons_succ, Option.bind_some, Option.map_some, f_nil, f_cons, f_some, f_nx, f_ct, f_bk, f_rt, f_ex, a_putV, a_pv0, a_pv1, a_put, a_sp0, a_sp1, a_sp2, a_sp3, a_sp4, a_app, a_sa1, a_sa2, a_aug, a_au1, a_au2, a_au3, gEq_int, gNe_int, ct_rf, ct_own, if_true, if_false, Bool.false_eq_true, a_try, a_tryK_0, a_tryK_1, a_tryK_2, a_tryH_0, a_tryH_1, a_tryK2_0, a_tryK2_1, a_hdS_0, a_hdS_1, a_compX, a_compKX_0, a_fld, a_meth, a_prop, a_propK, a_propE, a_make, a_makeK, a_makeE, a_putF, a_pfK, a_lkv, a_lkvK, a_dct1, a_dct1K, a_dct1K2, a_dct2, a_key, a_putK, a_pk0, a_pk1, a_pk2, a_rg2, a_rg2K, a_rg2K2, a_oL, set_nr h3, B__law_next_0, cnn, int1, p2, tb2, hb, ei, bor]
    | false => simp -implicitDefEqProofs only [a_seq, a_expr, a_ret, a_retO, a_set, a_setO, a_if, a_unp, a_for, a_nil, a_retN, a_then_0, a_then_1, a_then_2, a_then_3, a_sK_0, a_sK_1, a_ifS_0, a_ifS_1, a_ifS_2, a_k_0, a_k_1, a_k_2, a_k_3, a_k_4, a_k_5, a_k_6, a_setV, a_setOd, a_setVK_0, a_setVK_1, a_setVK_2, a_setVK_3, a_setVK_4, a_setVK_5, a_c, a_var, a_varK_0, a_varK_1, a_bin, a_binK_0, a_binK_1, a_binK_2, a_binK_3, a_oE_0, a_oE_1, a_un, a_unK_0, a_unK_1, a_unK_2, a_unK_3, a_test, a_tru, a_not, a_asB_0, a_asB_1, a_asB_2, a_asB_3, a_lst_0, a_lst_1, a_and, a_or, a_andK_0, a_andK_1, a_andK_2, a_andK_3, a_andK_4, a_andK_5, a_dIf, a_tand, a_tor, a_tnot, a_ifK_0, a_ifK_1, a_ifK_2, a_ifK_3, a_ifK_4, a_cons, a_consK_0, a_consK_1, a_consK_2, a_consK_3, a_consK_4, a_refA, a_refK_0, a_refK_1, a_refK_2, a_cb, a_tup, a_dLst, a_vals0, a_vals1, a_vals2, a_vals3, a_vals4, call_eq, callO_eq, a_call1, a_call2, a_call3, a_call4, a_rf0, a_rf1, a_rf2, a_rfK_0, a_rfK_1, a_rfK_2, a_end0_0, a_end0_1, a_end0_2, a_end0_3, a_end1, a_put1_0, a_put1_1, a_look, a_lkK_0, a_lkK_1, a_lkK_2, a_ixV, a_ixK_0, a_ixK_1, a_ixK_2, a_lenV, a_truV, a_len_0, a_len_1, a_len_2, a_len_3, a_len_4, a_it, a_rg1, a_rgL, a_en, a_zp, a_itK_0, a_itK_1, a_itK_2, a_itE_0, a_itE_1, a_comp, a_compK_0, a_compK_1, a_isi, a_gI_0, a_gI_1, a_gI_2, List.getElem?_cons_zero, List.getElem?_cons_succ, List.set_cons_zero, List.set_cons_succ, Option.bind_some, Option.map_some, f_nil, f_cons, f_some, f_nx, f_ct, f_bk, f_rt, f_ex, a_putV, a_pv0, a_pv1, a_put, a_sp0, a_sp1, a_sp2, a_sp3, a_sp4, a_app, a_sa1, a_sa2, a_aug, a_au1, a_au2, a_au3, gEq_int, gNe_int, ct_rf, ct_own, if_true, if_false, Bool.false_eq_true, a_try, a_tryK_0, a_tryK_1, a_tryK_2, a_tryH_0, a_tryH_1, a_tryK2_0, a_tryK2_1, a_hdS_0, a_hdS_1, a_compX, a_compKX_0, a_fld, a_meth, a_prop, a_propK, a_propE, a_make, a_makeK, a_makeE, a_putF, a_pfK, a_lkv, a_lkvK, a_dct1, a_dct1K, a_dct1K2, a_dct2, a_key, a_putK, a_pk0, a_pk1, a_pk2, a_rg2, a_rg2K, a_rg2K2, a_oL, set_nr h3, B__law_next_0, cnn, int1, p2, tb2, hb]
theorem lnext_ev (r : List Nat) (l : Nat) (h : r.length ≤ 63) : fn__law_next [sq false (rowD r), .int (l : Int)] = .ret (.int (Nx r l : Nat)) [] := by
  rw [o__law_next]
  obtain ⟨s3', e⟩ := lnext_loop r l r 0 0 .un rfl nr_un
  have e : forL (setV 3) B__law_next_0 (rgF 0 r.length) [.val (sq false (rowD r)), .val (.int (l : Int)), .val (.int 0), .un] = _ := e
  have q := sq_len false (rowD r)
  rw [row_len] at q
  simp -implicitDefEqProofs only [F__law_next, a_seq, a_set, a_c, a_sK_0, a_k_3, a_k_6, a_then_0, a_setV, a_setVK_0, List.getElem?_cons_zero, List.getElem?_cons_succ, List.set_cons_zero, List.set_cons_succ, a_for, a_rg1, a_lenV, a_look, a_lkK_0, Option.bind_some, q, Option.map_some, a_oE_0, itF r.length (by omega), a_var, a_varK_0, a_compK_1, e]
  rfl
theorem lback_loop (all : List Nat) (l : Nat) : ∀ (r : List Nat) (i acc : Nat) (s3 : Sl), i + r.length ≤ 64 → all.drop i = r → Nr s3 → ∃ s3',
    forL (setV 3) B__law_back_0 (rgF i r.length) [.val (sq false (rowD all)), .val (.int (l : Int)), .val (.int (acc : Int)), s3] = .nx [.val (sq false (rowD all)), .val (.int (l : Int)), .val (.int (bk r l i acc : Nat)), s3']
  | [], i, acc, s3, _, _, h3 => ⟨s3, rfl⟩
  | a :: r, i, acc, s3, hl, hd, h3 => by
    obtain ⟨e1, e2⟩ := drop_at hd
    have hl' : i + (r.length + 1) ≤ 64 := hl
    obtain ⟨s3', e⟩ := lback_loop all l r (i + 1) (if a &&& l = a then acc ||| 2 ^ i else acc) (.val (.int (i : Int))) (by omega) e2 (nr_val _)
    refine ⟨s3', ?_⟩
    have ei := ix_row false e1
    have cp : cPow 1 (i : Int) = true := cpw (by omega)
    rw [show (a :: r).length = r.length + 1 from rfl, rgF_succ, bk, ← e]
    by_cases hb : a &&& l = a
    · simp -implicitDefEqProofs only [a_seq, a_expr, a_ret, a_retO, a_set, a_setO, a_if, a_unp, a_for, a_nil, a_retN, a_then_0, a_then_1, a_then_2, a_then_3, a_sK_0, a_sK_1, a_ifS_0, a_ifS_1, a_ifS_2, a_k_0, a_k_1, a_k_2, a_k_3, a_k_4, a_k_5, a_k_6, a_setV, a_setOd, a_setVK_0, a_setVK_1, a_setVK_2, a_setVK_3, a_setVK_4, a_setVK_5, a_c, a_var, a_varK_0, a_varK_1, a_bin, a_binK_0, a_binK_1, a_binK_2, a_binK_3, a_oE_0, a_oE_1, a_un, a_unK_0, a_unK_1, a_unK_2, a_unK_3, a_test, a_tru, a_not, a_asB_0, a_asB_1, a_asB_2, a_asB_3, a_lst_0, a_lst_1, a_and, a_or, a_andK_0, a_andK_1, a_andK_2, a_andK_3, a_andK_4, a_andK_5, a_dIf, a_tand, a_tor, a_tnot, a_ifK_0, a_ifK_1, a_ifK_2, a_ifK_3, a_ifK_4, a_cons, a_consK_0, a_consK_1, a_consK_2, a_consK_3, a_consK_4, a_refA, a_refK_0, a_refK_1, a_refK_2, a_cb, a_tup, a_dLst, a_vals0, a_vals1, a_vals2, a_vals3, a_vals4, call_eq, callO_eq, a_call1, a_call2, a_call3, a_call4, a_rf0, a_rf1, a_rf2, a_rfK_0, a_rfK_1, a_rfK_2, a_end0_0, a_end0_1, a_end0_2, a_end0_3, a_end1, a_put1_0, a_put1_1, a_look, a_lkK_0, a_lkK_1, a_lkK_2, a_ixV, a_ixK_0, a_ixK_1, a_ixK_2, a_lenV, a_truV, a_len_0, a_len_1, a_len_2, a_len_3, a_len_4, a_it, a_rg1, a_rgL, a_en, a_zp, a_itK_0, a_itK_1, a_itK_2, a_itE_0, a_itE_1, a_comp, a_compK_0, a_compK_1, a_isi, a_gI_0, a_gI_1, a_gI_2, List.getElem?_cons_zero, List.getElem?_cons_succ, List.set_cons_zero, List.set_cons_succ, Option.bind_some, Option.map_some, f_nil, f_cons, f_some, f_nx, f_ct, f_bk, f_rt, f_ex, a_putV, a_pv0, a_pv1, a_put, a_sp0, a_sp1, a_sp2, a_sp3, a_sp4, a_app, a_sa1, a_sa2, a_aug, a_au1, a_au2, a_au3, gEq_int, gNe_int, ct_rf, ct_own, if_true, if_false, Bool.false_eq_true, a_try, a_tryK_0, a_tryK_1, a_tryK_2, a_tryH_0, a_tryH_1, a_tryK2_0, a_tryK2_1, a_hdS_0, a_hdS_1, a_compX, a_compKX_0, a_fld, a_meth, a_prop, a_propK, a_propE, a_make, a_makeK, a_makeE, a_putF, a_pfK, a_lkv, a_lkvK, a_dct1, a_dct1K, a_dct1K2, a_dct2, a_key, a_putK, a_pk0, a_pk1, a_pk2, a_rg2, a_rg2K, a_rg2K2, a_oL, set_nr h3, B__law_back_0, ei, wib2, hb, decide_true, cp, shl1, bor]
    · simp -implicitDefEqProofs only [a_seq, a_expr, a_ret, a_retO, a_set, a_setO, a_if, a_unp, a_for, a_nil, a_retN, a_then_0, a_then_1, a_then_2, a_then_3, a_sK_0, a_sK_1, a_ifS_0, a_ifS_1, a_ifS_2, a_k_0, a_k_1, a_k_2, a_k_3, a_k_4, a_k_5, a_k_6, a_setV, a_setOd, a_setVK_0, a_setVK_1, a_setVK_2, a_setVK_3, a_setVK_4, a_setVK_5, a_c, a_var, a_varK_0, a_varK_1, a_bin, a_binK_0, a_binK_1, a_binK_2, a_binK_3, a_oE_0, a_oE_1, a_un, a_unK_0, a_unK_1, a_unK_2, a_unK_3, a_test, a_tru, a_not, a_asB_0, a_asB_1, a_asB_2, a_asB_3, a_lst_0, a_lst_1, a_and, a_or, a_andK_0, a_andK_1, a_andK_2, a_andK_3, a_andK_4, a_andK_5, a_dIf, a_tand, a_tor, a_tnot, a_ifK_0, a_ifK_1, a_ifK_2, a_ifK_3, a_ifK_4, a_cons, a_consK_0, a_consK_1, a_consK_2, a_consK_3, a_consK_4, a_refA, a_refK_0, a_refK_1, a_refK_2, a_cb, a_tup, a_dLst, a_vals0, a_vals1, a_vals2, a_vals3, a_vals4, call_eq, callO_eq, a_call1, a_call2, a_call3, a_call4, a_rf0, a_rf1, a_rf2, a_rfK_0, a_rfK_1, a_rfK_2, a_end0_0, a_end0_1, a_end0_2, a_end0_3, a_end1, a_put1_0, a_put1_1, a_look, a_lkK_0, a_lkK_1, a_lkK_2, a_ixV, a_ixK_0, a_ixK_1, a_ixK_2, a_lenV, a_truV, a_len_0, a_len_1, a_len_2, a_len_3, a_len_4, a_it, a_rg1, a_rgL, a_en, a_zp, a_itK_0, a_itK_1, a_itK_2, a_itE_0, a_itE_1, a_comp, a_compK_0, a_compK_1, a_isi, a_gI_0, a_gI_1, a_gI_2, List.getElem?_cons_zero, List.getElem?_cons_succ, List.set_cons_zero, List.set_cons_succ, Option.bind_some, Option.map_some, f_nil, f_cons, f_some, f_nx, f_ct, f_bk, f_rt, f_ex, a_putV, a_pv0, a_pv1, a_put, a_sp0, a_sp1, a_sp2, a_sp3, a_sp4, a_app, a_sa1, a_sa2, a_aug, a_au1, a_au2, a_au3, gEq_int, gNe_int, ct_rf, ct_own, if_true, if_false, Bool.false_eq_true, a_try, a_tryK_0, a_tryK_1, a_tryK_2, a_tryH_0, a_tryH_1, a_tryK2_0, a_tryK2_1, a_hdS_0, a_hdS_1, a_compX, a_compKX_0, a_fld, a_meth, a_prop, a_propK, a_propE, a_make, a_makeK, a_makeE, a_putF, a_pfK, a_lkv, a_lkvK, a_dct1, a_dct1K, a_dct1K2, a_dct2, a_key, a_putK, a_pk0, a_pk1, a_pk2, a_rg2, a_rg2K, a_rg2K2, a_oL, set_nr h3, B__law_back_0, ei, wib2, hb, decide_false]
theorem lback_ev (r : List Nat) (l : Nat) (h : r.length ≤ 63) : fn__law_back [sq false (rowD r), .int (l : Int)] = .ret (.int (Bk r l : Nat)) [] := by
  rw [o__law_back]
  obtain ⟨s3', e⟩ := lback_loop r l r 0 0 .un (by omega) rfl nr_un
  have e : forL (setV 3) B__law_back_0 (rgF 0 r.length) [.val (sq false (rowD r)), .val (.int (l : Int)), .val (.int 0), .un] = _ := e
  have q := sq_len false (rowD r)
  rw [row_len] at q
  simp -implicitDefEqProofs only [F__law_back, a_seq, a_set, a_c, a_sK_0, a_k_3, a_k_6, a_then_0, a_setV, a_setVK_0, List.getElem?_cons_zero, List.getElem?_cons_succ, List.set_cons_zero, List.set_cons_succ, a_for, a_rg1, a_lenV, a_look, a_lkK_0, Option.bind_some, q, Option.map_some, a_oE_0, itF r.length (by omega), a_var, a_varK_0, a_compK_1, e]
  rfl
end LW

set_option maxRecDepth 100000
set_option maxHeartbeats 2000000
namespace LW
open PySem PySem.Spec PyProof.Rows L2 DL
theorem lint_ev (i : Int) : fn__law_int [.int i] = .ret (.bl true) [] := by
  rw [o__law_int]
  simp -implicitDefEqProofs only [F__law_int, a_seq, a_expr, a_ret, a_retO, a_set, a_setO, a_if, a_unp, a_for, a_nil, a_retN, a_then_0, a_then_1, a_then_2, a_then_3, a_sK_0, a_sK_1, a_ifS_0, a_ifS_1, a_ifS_2, a_k_0, a_k_1, a_k_2, a_k_3, a_k_4, a_k_5, a_k_6, a_setV, a_setOd, a_setVK_0, a_setVK_1, a_setVK_2, a_setVK_3, a_setVK_4, a_setVK_5, a_c, a_var, a_varK_0, a_varK_1, a_bin, a_binK_0, a_binK_1, a_binK_2, a_binK_3, a_oE_0, a_oE_1, a_un, a_unK_0, a_unK_1, a_unK_2, a_unK_3, a_test, a_tru, a_not, a_asB_0, a_asB_1, a_asB_2, a_asB_3, a_lst_0, a_lst_1, a_and, a_or, a_andK_0, a_andK_1, a_andK_2, a_andK_3, a_andK_4, a_andK_5, a_dIf, a_tand, a_tor, a_tnot, a_ifK_0, a_ifK_1, a_ifK_2, a_ifK_3, a_ifK_4, a_cons, a_consK_0, a_consK_1, a_consK_2, a_consK_3, a_consK_4, a_refA, a_refK_0, a_refK_1, a_refK_2, a_cb, a_tup, a_dLst, a_vals0, a_vals1, a_vals2, a_vals3, a_vals4, call_eq, callO_eq, a_call1, a_call2, a_call3, a_call4, a_rf0, a_rf1, a_rf2, a_rfK_0, a_rfK_1, a_rfK_2, a_end0_0, a_end0_1, a_end0_2, a_end0_3, a_end1, a_put1_0, a_put1_1, a_look, a_lkK_0, a_lkK_1, a_lkK_2, a_ixV, a_ixK_0, a_ixK_1, a_ixK_2, a_lenV, a_truV, a_len_0, a_len_1, a_len_2, a_len_3, a_len_4, a_it, a_rg1, a_rgL, a_en, a_zp, a_itK_0, a_itK_1, a_itK_2, a_itE_0, a_itE_1, a_comp, a_compK_0, a_compK_1, a_isi, a_gI_0, a_gI_1, a_gI_2, List.getElem?_cons_zero, List.getElem?_cons_succ, List.set_cons_zero, List.set_cons_succ, Option.bind_some, Option.map_some, f_nil, f_cons, f_some, f_nx, f_ct, f_bk, f_rt, f_ex, a_putV, a_pv0, a_pv1, a_put, a_sp0, a_sp1, a_sp2, a_sp3, a_sp4, a_app, a_sa1, a_sa2, a_aug, a_au1, a_au2, a_au3, gEq_int, gNe_int, ct_rf, ct_own, if_true, if_false, Bool.false_eq_true, a_try, a_tryK_0, a_tryK_1, a_tryK_2, a_tryH_0, a_tryH_1, a_tryK2_0, a_tryK2_1, a_hdS_0, a_hdS_1, a_compX, a_compKX_0, a_fld, a_meth, a_prop, a_propK, a_propE, a_make, a_makeK, a_makeE, a_putF, a_pfK, a_lkv, a_lkvK, a_dct1, a_dct1K, a_dct1K2, a_dct2, a_key, a_putK, a_pk0, a_pk1, a_pk2, a_rg2, a_rg2K, a_rg2K2, a_oL, isi_int, s5, s3, Bool.not_false]
  rfl
def Pl : Nat → D → Prop
  | _, .int _ => True
  | n + 1, .tup ds => ds.length ≤ 4096 ∧ ∀ d ∈ ds, Pl n d
  | _, _ => False
theorem exact_int (n : Nat) (i : Int) : fn__law_exact (n + 1) [.int i, .int i] = .ret (.bl true) [] := by
  rw [o__law_exact]
  simp -implicitDefEqProofs only [F__law_exact, a_seq, a_expr, a_ret, a_retO, a_set, a_setO, a_if, a_unp, a_for, a_nil, a_retN, a_then_0, a_then_1, a_then_2, a_then_3, a_sK_0, a_sK_1, a_ifS_0, a_ifS_1, a_ifS_2, a_k_0, a_k_1, a_k_2, a_k_3, a_k_4, a_k_5, a_k_6, a_setV, a_setOd, a_setVK_0, a_setVK_1, a_setVK_2, a_setVK_3, a_setVK_4, a_setVK_5, a_c, a_var, a_varK_0, a_varK_1, a_bin, a_binK_0, a_binK_1, a_binK_2, a_binK_3, a_oE_0, a_oE_1, a_un, a_unK_0, a_unK_1, a_unK_2, a_unK_3, a_test, a_tru, a_not, a_asB_0, a_asB_1, a_asB_2, a_asB_3, a_lst_0, a_lst_1, a_and, a_or, a_andK_0, a_andK_1, a_andK_2, a_andK_3, a_andK_4, a_andK_5, a_dIf, a_tand, a_tor, a_tnot, a_ifK_0, a_ifK_1, a_ifK_2, a_ifK_3, a_ifK_4, a_cons, a_consK_0, a_consK_1, a_consK_2, a_consK_3, a_consK_4, a_refA, a_refK_0, a_refK_1, a_refK_2, a_cb, a_tup, a_dLst, a_vals0, a_vals1, a_vals2, a_vals3, a_vals4, call_eq, callO_eq, a_call1, a_call2, a_call3, a_call4, a_rf0, a_rf1, a_rf2, a_rfK_0, a_rfK_1, a_rfK_2, a_end0_0, a_end0_1, a_end0_2, a_end0_3, a_end1, a_put1_0, a_put1_1, a_look, a_lkK_0, a_lkK_1, a_lkK_2, a_ixV, a_ixK_0, a_ixK_1, a_ixK_2, a_lenV, a_truV, a_len_0, a_len_1, a_len_2, a_len_3, a_len_4, a_it, a_rg1, a_rgL, a_en, a_zp, a_itK_0, a_itK_1, a_itK_2, a_itE_0, a_itE_1, a_comp, a_compK_0, a_compK_1, a_isi, a_gI_0, a_gI_1, a_gI_2, List.getElem?_cons_zero, List.getElem?_cons_succ, List.set_cons_zero, List.set_cons_succ, Option.bind_some, Option.map_some, f_nil, f_cons, f_some, f_nx, f_ct, f_bk, f_rt, f_ex, a_putV, a_pv0, a_pv1, a_put, a_sp0, a_sp1, a_sp2, a_sp3, a_sp4, a_app, a_sa1, a_sa2, a_aug, a_au1, a_au2, a_au3, gEq_int, gNe_int, ct_rf, ct_own, if_true, if_false, Bool.false_eq_true, a_try, a_tryK_0, a_tryK_1, a_tryK_2, a_tryH_0, a_tryH_1, a_tryK2_0, a_tryK2_1, a_hdS_0, a_hdS_1, a_compX, a_compKX_0, a_fld, a_meth, a_prop, a_propK, a_propE, a_make, a_makeK, a_makeE, a_putF, a_pfK, a_lkv, a_lkvK, a_dct1, a_dct1K, a_dct1K2, a_dct2, a_key, a_putK, a_pk0, a_pk1, a_pk2, a_rg2, a_rg2K, a_rg2K2, a_oL, isi_int, s1, s3, s4, (is_non i).1, lint_ev, beq_self_eq_true]
  rfl
theorem exact_tup (n : Nat) (ds : List D) (hl : ds.length ≤ 4096) (ih : ∀ d ∈ ds, fn__law_exact (n + 1) [d, d] = .ret (.bl true) []) : fn__law_exact (n + 2) [.tup ds, .tup ds] = .ret (.bl true) [] := by
  rw [o__law_exact]
  have c : compL (setV 2) (Q__law_exact_0 (fn__law_exact (n + 1))) (E__law_exact_0 (fn__law_exact (n + 1))) [2] (rgF 0 ds.length) [.val (.tup ds), .val (.tup ds), .un] [] = .ok (.lst []) [.val (.tup ds), .val (.tup ds), .un] := by
    have := comp_map (setV 2) (Q__law_exact_0 (fn__law_exact (n + 1))) (E__law_exact_0 (fn__law_exact (n + 1))) [2] (δ := [.val (.tup ds), .val (.tup ds), .un]) (fun _ => false) id rfl (rgF 0 ds.length) [] (by rw [rgF_len]; exact le_line (by simpa using hl)) fun d hd => by
      obtain ⟨k, hk, rfl⟩ := mem_rgF hd
      have e := ih ds[k] (List.getElem_mem hk)
      have ei : idxD (.tup ds) (.int ((k : Nat) : Int)) = some ds[k] := ix_any true (List.getElem?_eq_getElem hk)
      refine ⟨[.val (.tup ds), .val (.tup ds), .val (.int (k : Int))], [.val (.tup ds), .val (.tup ds), .val (.int (k : Int))], rfl, ?_, fun _ => rfl, fun z => by cases z⟩
      simp -implicitDefEqProofs only [Q__law_exact_0, a_seq, a_expr, a_ret, a_retO, a_set, a_setO, a_if, a_unp, a_for, a_nil, a_retN, a_then_0, a_then_1, a_then_2, a_then_3, a_sK_0, a_sK_1, a_ifS_0, a_ifS_1, a_ifS_2, a_k_0, a_k_1, a_k_2, a_k_3, a_k_4, a_k_5, a_k_6, a_setV, a_setOd, a_setVK_0, a_setVK_1, a_setVK_2, a_setVK_3, a_setVK_4, a_setVK_5, a_c, a_var, a_varK_0, a_varK_1, a_bin, a_binK_0, a_binK_1, a_binK_2, a_binK_3, a_oE_0, a_oE_1, a_un, a_unK_0, a_unK_1, a_unK_2, a_unK_3, a_test, a_tru, a_not, a_asB_0, a_asB_1, a_asB_2, a_asB_3, a_lst_0, a_lst_1, a_and, a_or, a_andK_0, a_andK_1, a_andK_2, a_andK_3, a_andK_4, a_andK_5, a_dIf, a_tand, a_tor, a_tnot, a_ifK_0, a_ifK_1, a_ifK_2, a_ifK_3, a_ifK_4, a_cons, a_consK_0, a_consK_1, a_consK_2, a_consK_3, a_consK_4, a_refA, a_refK_0, a_refK_1, a_refK_2, a_cb, a_tup, a_dLst, a_vals0, a_vals1, a_vals2, a_vals3, a_vals4, call_eq, callO_eq, a_call1, a_call2, a_call3, a_call4, a_rf0, a_rf1, a_rf2, a_rfK_0, a_rfK_1, a_rfK_2, a_end0_0, a_end0_1, a_end0_2, a_end0_3, a_end1, a_put1_0, a_put1_1, a_look, a_lkK_0, a_lkK_1, a_lkK_2, a_ixV, a_ixK_0, a_ixK_1, a_ixK_2, a_lenV, a_truV, a_len_0, a_len_1, a_len_2, a_len_3, a_len_4, a_it, a_rg1, a_rgL, a_en, a_zp, a_itK_0, a_itK_1, a_itK_2, a_itE_0, a_itE_1, a_comp, a_compK_0, a_compK_1, a_isi, a_gI_0, a_gI_1, a_gI_2, List.getElem?_cons_zero, List.getElem?_cons_succ, List.set_cons_zero, List.set_cons_succ, Option.bind_some, Option.map_some, f_nil, f_cons, f_some, f_nx, f_ct, f_bk, f_rt, f_ex, a_putV, a_pv0, a_pv1, a_put, a_sp0, a_sp1, a_sp2, a_sp3, a_sp4, a_app, a_sa1, a_sa2, a_aug, a_au1, a_au2, a_au3, gEq_int, gNe_int, ct_rf, ct_own, if_true, if_false, Bool.false_eq_true, a_try, a_tryK_0, a_tryK_1, a_tryK_2, a_tryH_0, a_tryH_1, a_tryK2_0, a_tryK2_1, a_hdS_0, a_hdS_1, a_compX, a_compKX_0, a_fld, a_meth, a_prop, a_propK, a_propE, a_make, a_makeK, a_makeE, a_putF, a_pfK, a_lkv, a_lkvK, a_dct1, a_dct1K, a_dct1K2, a_dct2, a_key, a_putK, a_pk0, a_pk1, a_pk2, a_rg2, a_rg2K, a_rg2K2, a_oL, ei, e, Bool.not_true]
    rw [this]; simp
  have gE : gEq false (.lst []) (.lst []) = some (.bl true) := rfl
  simp -implicitDefEqProofs only [F__law_exact, a_seq, a_expr, a_ret, a_retO, a_set, a_setO, a_if, a_unp, a_for, a_nil, a_retN, a_then_0, a_then_1, a_then_2, a_then_3, a_sK_0, a_sK_1, a_ifS_0, a_ifS_1, a_ifS_2, a_k_0, a_k_1, a_k_2, a_k_3, a_k_4, a_k_5, a_k_6, a_setV, a_setOd, a_setVK_0, a_setVK_1, a_setVK_2, a_setVK_3, a_setVK_4, a_setVK_5, a_c, a_var, a_varK_0, a_varK_1, a_bin, a_binK_0, a_binK_1, a_binK_2, a_binK_3, a_oE_0, a_oE_1, a_un, a_unK_0, a_unK_1, a_unK_2, a_unK_3, a_test, a_tru, a_not, a_asB_0, a_asB_1, a_asB_2, a_asB_3, a_lst_0, a_lst_1, a_and, a_or, a_andK_0, a_andK_1, a_andK_2, a_andK_3, a_andK_4, a_andK_5, a_dIf, a_tand, a_tor, a_tnot, a_ifK_0, a_ifK_1, a_ifK_2, a_ifK_3, a_ifK_4, a_cons, a_consK_0, a_consK_1, a_consK_2, a_consK_3, a_consK_4, a_refA, a_refK_0, a_refK_1, a_refK_2, a_cb, a_tup, a_dLst, a_vals0, a_vals1, a_vals2, a_vals3, a_vals4, call_eq, callO_eq, a_call1, a_call2, a_call3, a_call4, a_rf0, a_rf1, a_rf2, a_rfK_0, a_rfK_1, a_rfK_2, a_end0_0, a_end0_1, a_end0_2, a_end0_3, a_end1, a_put1_0, a_put1_1, a_look, a_lkK_0, a_lkK_1, a_lkK_2, a_ixV, a_ixK_0, a_ixK_1, a_ixK_2, a_lenV, a_truV, a_len_0, a_len_1, a_len_2, a_len_3, a_len_4, a_it, a_rg1, a_rgL, a_en, a_zp, a_itK_0, a_itK_1, a_itK_2, a_itE_0, a_itE_1, a_comp, a_compK_0, a_compK_1, a_isi, a_gI_0, a_gI_1, a_gI_2, List.getElem?_cons_zero, List.getElem?_cons_succ, List.set_cons_zero, List.set_cons_succ, Option.bind_some, Option.map_some, f_nil, f_cons, f_some, f_nx, f_ct, f_bk, f_rt, f_ex, a_putV, a_pv0, a_pv1, a_put, a_sp0, a_sp1, a_sp2, a_sp3, a_sp4, a_app, a_sa1, a_sa2, a_aug, a_au1, a_au2, a_au3, gEq_int, gNe_int, ct_rf, ct_own, if_true, if_false, Bool.false_eq_true, a_try, a_tryK_0, a_tryK_1, a_tryK_2, a_tryH_0, a_tryH_1, a_tryK2_0, a_tryK2_1, a_hdS_0, a_hdS_1, a_compX, a_compKX_0, a_fld, a_meth, a_prop, a_propK, a_propE, a_make, a_makeK, a_makeE, a_putF, a_pfK, a_lkv, a_lkvK, a_dct1, a_dct1K, a_dct1K2, a_dct2, a_key, a_putK, a_pk0, a_pk1, a_pk2, a_rg2, a_rg2K, a_rg2K2, a_oL, isi_tup, s2, Bool.not_true, beq_self_eq_true, itF ds.length hl, c, gLst0, gE]
  rfl
theorem exact_ev (n : Nat) : ∀ (d : D), Pl n d → fn__law_exact (n + 1) [d, d] = .ret (.bl true) [] := by
  induction n with
  | zero =>
    intro d h
    cases d with
    | int i => exact exact_int 0 i
    | _ => exact h.elim
  | succ n ih =>
    intro d h
    cases d with
    | int i => exact exact_int (n + 1) i
    | tup ds => exact exact_tup n ds h.1 fun d hd => ih d (h.2 d hd)
    | _ => exact h.elim
theorem pl_mono (n : Nat) : ∀ {m : Nat} {d : D}, n ≤ m → Pl n d → Pl m d := by
  induction n with
  | zero =>
    intro m d _ h
    cases d with
    | int i => cases m <;> trivial
    | _ => exact h.elim
  | succ n ih =>
    intro m d hm h
    cases d with
    | int i => cases m <;> trivial
    | tup ds =>
      cases m with
      | zero => omega
      | succ m => exact ⟨h.1, fun d hd => ih (by omega) (h.2 d hd)⟩
    | _ => exact h.elim
theorem pl_row {r : List Nat} (h : r.length ≤ 4096) : Pl 1 (.tup (rowD r)) := ⟨by rw [row_len]; exact h, fun d hd => by obtain ⟨n, _, rfl⟩ := List.mem_map.mp hd; trivial⟩
theorem exact4 {d : D} (h : Pl 3 d) : fn__law_exact 4 [d, d] = .ret (.bl true) [] := exact_ev 3 d h
end LW

set_option maxRecDepth 100000
set_option maxHeartbeats 2000000
namespace LW
open PySem PySem.Spec PyProof.Rows L2 DL
theorem isi_bl (Ts : List String) (b : Bool) : Option.map (fun t => D.bl (Ts.any (subT t))) (tyD (.bl b)) = some (.bl (Ts.any (subT "bool"))) := rfl
theorem sb1 : (["tuple"].any (subT "bool")) = false := by decide
theorem sb2 : (["bool"].any (subT "bool")) = true := by decide
theorem bl_non (b : Bool) : gIs false (.bl b) .non = some (.bl false) := rfl
theorem bl_is (b c : Bool) : gIs false (.bl b) (.bl c) = some (.bl (decide (b = c))) := by cases b <;> cases c <;> rfl
theorem exact_bl (n : Nat) (b : Bool) : fn__law_exact (n + 1) [.bl b, .bl b] = .ret (.bl true) [] := by
  rw [o__law_exact]
  cases b <;> simp -implicitDefEqProofs only [F__law_exact, a_seq, a_expr, a_ret, a_retO, a_set, a_setO, a_if, a_unp, a_for, a_nil, a_retN, a_then_0, a_then_1, a_then_2, a_then_3, a_sK_0, a_sK_1, a_ifS_0, a_ifS_1, a_ifS_2, a_k_0, a_k_1, a_k_2, a_k_3, a_k_4, a_k_5, a_k_6, a_setV, a_setOd, a_setVK_0, a_setVK_1, a_setVK_2, a_setVK_3, a_setVK_4, a_setVK_5, a_c, a_var, a_varK_0, a_varK_1, a_bin, a_binK_0, a_binK_1, a_binK_2, a_binK_3, a_oE_0, a_oE_1, a_un, a_unK_0, a_unK_1, a_unK_2, a_unK_3, a_test, a_tru, a_not, a_asB_0, a_asB_1, a_asB_2, a_asB_3, a_lst_0, a_lst_1, a_and, a_or, a_andK_0, a_andK_1, a_andK_2, a_andK_3, a_andK_4, a_andK_5, a_dIf, a_tand, a_tor, a_tnot, a_ifK_0, a_ifK_1, a_ifK_2, a_ifK_3, a_ifK_4, a_cons, a_consK_0, a_consK_1, a_consK_2, a_consK_3, a_consK_4, a_refA, a_refK_0, a_refK_1, a_refK_2, a_cb, a_tup, a_dLst, a_vals0, a_vals1, a_vals2, a_vals3, a_vals4, call_eq, callO_eq, a_call1, a_call2, a_call3, a_call4, a_rf0, a_rf1, a_rf2, a_rfK_0, a_rfK_1, a_rfK_2, a_end0_0, a_end0_1, a_end0_2, a_end0_3, a_end1, a_put1_0, a_put1_1, a_look, a_lkK_0, a_lkK_1, a_lkK_2, a_ixV, a_ixK_0, a_ixK_1, a_ixK_2, a_lenV, a_truV, a_len_0, a_len_1, a_len_2, a_len_3, a_len_4, a_it, a_rg1, a_rgL, a_en, a_zp, a_itK_0, a_itK_1, a_itK_2, a_itE_0, a_itE_1, a_comp, a_compK_0, a_compK_1, a_isi, a_gI_0, a_gI_1, a_gI_2, List.getElem?_cons_zero, List.getElem?_cons_succ, List.set_cons_zero, List.set_cons_succ, Option.bind_some, Option.map_some, f_nil, f_cons, f_some, f_nx, f_ct, f_bk, f_rt, f_ex, a_putV, a_pv0, a_pv1, a_put, a_sp0, a_sp1, a_sp2, a_sp3, a_sp4, a_app, a_sa1, a_sa2, a_aug, a_au1, a_au2, a_au3, gEq_int, gNe_int, ct_rf, ct_own, if_true, if_false, Bool.false_eq_true, a_try, a_tryK_0, a_tryK_1, a_tryK_2, a_tryH_0, a_tryH_1, a_tryK2_0, a_tryK2_1, a_hdS_0, a_hdS_1, a_compX, a_compKX_0, a_fld, a_meth, a_prop, a_propK, a_propE, a_make, a_makeK, a_makeE, a_putF, a_pfK, a_lkv, a_lkvK, a_dct1, a_dct1K, a_dct1K2, a_dct2, a_key, a_putK, a_pk0, a_pk1, a_pk2, a_rg2, a_rg2K, a_rg2K2, a_oL, isi_bl, sb1, sb2, bl_non, bl_is, decide_true] <;> rfl
end LW

set_option maxRecDepth 100000
set_option maxHeartbeats 2000000
namespace LW
open PySem PySem.Spec PyProof.Rows L2 DL
theorem stands_ev (d : D) (h : Hand d) : ∃ (v : Nat) (d' : D), fn__law_stands [d] = .ret (.int (v : Int)) [d'] ∧ Hand d' ∧ 1 ≤ v ∧ v ≤ 6 := by
  obtain ⟨t, d', e, h', ht⟩ := take_nat d 16 h (by decide) (by decide)
  have e : fn__law_take [d, .int 16] = .ret (.int (t : Int)) [d'] := e
  have key : ∃ v : Nat, idxD (.tup [(.int 3), (.int 4), (.int 3), (.int 4), (.int 3), (.int 4), (.int 3), (.int 4), (.int 2), (.int 2), (.int 5), (.int 5), (.int 6), (.int 6), (.int 3), (.int 1)]) (.int (t : Int)) = some (.int (v : Int)) ∧ 1 ≤ v ∧ v ≤ 6 := by
    have c : t = 0 ∨ t = 1 ∨ t = 2 ∨ t = 3 ∨ t = 4 ∨ t = 5 ∨ t = 6 ∨ t = 7 ∨ t = 8 ∨ t = 9 ∨ t = 10 ∨ t = 11 ∨ t = 12 ∨ t = 13 ∨ t = 14 ∨ t = 15 := by omega
    rcases c with rfl | rfl | rfl | rfl | rfl | rfl | rfl | rfl | rfl | rfl | rfl | rfl | rfl | rfl | rfl | rfl
    · exact ⟨3, rfl, by decide, by decide⟩
    · exact ⟨4, rfl, by decide, by decide⟩
    · exact ⟨3, rfl, by decide, by decide⟩
    · exact ⟨4, rfl, by decide, by decide⟩
    · exact ⟨3, rfl, by decide, by decide⟩
    · exact ⟨4, rfl, by decide, by decide⟩
    · exact ⟨3, rfl, by decide, by decide⟩
    · exact ⟨4, rfl, by decide, by decide⟩
    · exact ⟨2, rfl, by decide, by decide⟩
    · exact ⟨2, rfl, by decide, by decide⟩
    · exact ⟨5, rfl, by decide, by decide⟩
    · exact ⟨5, rfl, by decide, by decide⟩
    · exact ⟨6, rfl, by decide, by decide⟩
    · exact ⟨6, rfl, by decide, by decide⟩
    · exact ⟨3, rfl, by decide, by decide⟩
    · exact ⟨1, rfl, by decide, by decide⟩
  obtain ⟨v, ev, h1, h2⟩ := key
  refine ⟨v, d', ?_, h', h1, h2⟩
  rw [o__law_stands]
  simp -implicitDefEqProofs only [F__law_stands, a_seq, a_expr, a_ret, a_retO, a_set, a_setO, a_if, a_unp, a_for, a_nil, a_retN, a_then_0, a_then_1, a_then_2, a_then_3, a_sK_0, a_sK_1, a_ifS_0, a_ifS_1, a_ifS_2, a_k_0, a_k_1, a_k_2, a_k_3, a_k_4, a_k_5, a_k_6, a_setV, a_setOd, a_setVK_0, a_setVK_1, a_setVK_2, a_setVK_3, a_setVK_4, a_setVK_5, a_c, a_var, a_varK_0, a_varK_1, a_bin, a_binK_0, a_binK_1, a_binK_2, a_binK_3, a_oE_0, a_oE_1, a_un, a_unK_0, a_unK_1, a_unK_2, a_unK_3, a_test, a_tru, a_not, a_asB_0, a_asB_1, a_asB_2, a_asB_3, a_lst_0, a_lst_1, a_and, a_or, a_andK_0, a_andK_1, a_andK_2, a_andK_3, a_andK_4, a_andK_5, a_dIf, a_tand, a_tor, a_tnot, a_ifK_0, a_ifK_1, a_ifK_2, a_ifK_3, a_ifK_4, a_cons, a_consK_0, a_consK_1, a_consK_2, a_consK_3, a_consK_4, a_refA, a_refK_0, a_refK_1, a_refK_2, a_cb, a_tup, a_dLst, a_vals0, a_vals1, a_vals2, a_vals3, a_vals4, call_eq, callO_eq, a_call1, a_call2, a_call3, a_call4, a_rf0, a_rf1, a_rf2, a_rfK_0, a_rfK_1, a_rfK_2, a_end0_0, a_end0_1, a_end0_2, a_end0_3, a_end1, a_put1_0, a_put1_1, a_look, a_lkK_0, a_lkK_1, a_lkK_2, a_ixV, a_ixK_0, a_ixK_1, a_ixK_2, a_lenV, a_truV, a_len_0, a_len_1, a_len_2, a_len_3, a_len_4, a_it, a_rg1, a_rgL, a_en, a_zp, a_itK_0, a_itK_1, a_itK_2, a_itE_0, a_itE_1, a_comp, a_compK_0, a_compK_1, a_isi, a_gI_0, a_gI_1, a_gI_2, List.getElem?_cons_zero, List.getElem?_cons_succ, List.set_cons_zero, List.set_cons_succ, Option.bind_some, Option.map_some, f_nil, f_cons, f_some, f_nx, f_ct, f_bk, f_rt, f_ex, a_putV, a_pv0, a_pv1, a_put, a_sp0, a_sp1, a_sp2, a_sp3, a_sp4, a_app, a_sa1, a_sa2, a_aug, a_au1, a_au2, a_au3, gEq_int, gNe_int, ct_rf, ct_own, if_true, if_false, Bool.false_eq_true, a_try, a_tryK_0, a_tryK_1, a_tryK_2, a_tryH_0, a_tryH_1, a_tryK2_0, a_tryK2_1, a_hdS_0, a_hdS_1, a_compX, a_compKX_0, a_fld, a_meth, a_prop, a_propK, a_propE, a_make, a_makeK, a_makeE, a_putF, a_pfK, a_lkv, a_lkvK, a_dct1, a_dct1K, a_dct1K2, a_dct2, a_key, a_putK, a_pk0, a_pk1, a_pk2, a_rg2, a_rg2K, a_rg2K2, a_oL, e, ev]
  rfl
theorem rows_of {α : Type} {m : Nat} : ∀ {ds : List α} {ys : List D}, All2 (fun _ y => ∃ n : Nat, y = D.int (n : Int) ∧ n < m) ds ys → ∃ r : List Nat, ys = rowD r ∧ r.length = ds.length ∧ ∀ a ∈ r, a < m
  | _, _, .nil => ⟨[], rfl, rfl, fun a h => nomatch h⟩
  | _, _, .cons ⟨n, e, hn⟩ t => by
    obtain ⟨r, e2, l, h⟩ := rows_of t
    refine ⟨n :: r, by rw [e, e2]; rfl, by simp [l], fun a ha => ?_⟩
    rcases List.mem_cons.mp ha with rfl | ha
    · exact hn
    · exact h a ha
theorem draw_rows {A : D → DEnv → Option DEnv} {el : DE} {vs : List Nat} {Δ : D → DEnv} {Γ : D → D → DEnv} {m n : Nat} (hv : ∀ x, vsFree vs (Δ x) = true) (hA : ∀ x z, A z (blkEnv vs (Δ x)) = some (Γ x z)) (hb : ∀ x x' z, backEnv (Δ x) (Γ x' z) = Δ x') (hn : n ≤ 4096)
    (step : ∀ (s : Nat) (x : D), s < n → Hand x → ∃ (k : Nat) (x' : D), el (Γ x (.int (s : Int))) = .ok (.int (k : Int)) (Γ x' (.int (s : Int))) ∧ Hand x' ∧ k < m) (d : D) (h : Hand d) :
    ∃ (r : List Nat) (d' : D), compL A dYes el vs (rgF 0 n) (Δ d) [] = .ok (.lst (rowD r)) (Δ d') ∧ Hand d' ∧ r.length = n ∧ ∀ a ∈ r, a < m := by
  obtain ⟨ys, x', e, hx', ar⟩ := comp_draw A dYes el vs (Δ := Δ) Hand (fun _ y => ∃ k : Nat, y = D.int (k : Int) ∧ k < m) hv (rgF 0 n) [] d h (by rw [rgF_len]; exact le_line (by simpa using hn)) fun z hz x hx => by
    obtain ⟨s, hs, rfl⟩ := mem_rgF hz
    obtain ⟨k, x', e, hx', hk⟩ := step s x hs hx
    exact ⟨.int (k : Int), x', Γ x (.int (s : Int)), Γ x (.int (s : Int)), Γ x' (.int (s : Int)), hA x _, rfl, e, hb x x' _, hx', k, rfl, hk⟩
  obtain ⟨r, rfl, hl, hr⟩ := rows_of ar
  exact ⟨r, x', by rw [e]; rfl, hx', by rw [hl, rgF_len], hr⟩
theorem single_ev (d : D) (v : Nat) (h : Hand d) (h1 : 1 ≤ v) (h2 : v ≤ 6) : ∃ (r : List Nat) (d' : D), fn__law_single [d, .int (v : Int)] = .ret (.lst (rowD r)) [d'] ∧ Hand d' ∧ r.length = v ∧ ∀ a ∈ r, a < 2 ^ v := by
  obtain ⟨r, d', e, hd', hl, hr⟩ := draw_rows (A := setV 2) (el := E__law_single_0) (vs := [2]) (Δ := fun x => [.rf x, .val (.int (v : Int)), .un]) (Γ := fun x z => [.rf x, .val (.int (v : Int)), .val z]) (m := 2 ^ v) (n := v) (fun _ => rfl) (fun _ _ => rfl) (fun _ _ _ => rfl) (by omega) (fun s x hs hx => by
    obtain ⟨t, x', e, hx', ht⟩ := take_nat x v hx (by omega) (by omega)
    have cp : cPow 1 (t : Int) = true := cpw (by omega)
    refine ⟨2 ^ t, x', ?_, hx', pw_lt ht⟩
    simp -implicitDefEqProofs only [E__law_single_0, a_seq, a_expr, a_ret, a_retO, a_set, a_setO, a_if, a_unp, a_for, a_nil, a_retN, a_then_0, a_then_1, a_then_2, a_then_3, a_sK_0, a_sK_1, a_ifS_0, a_ifS_1, a_ifS_2, a_k_0, a_k_1, a_k_2, a_k_3, a_k_4, a_k_5, a_k_6, a_setV, a_setOd, a_setVK_0, a_setVK_1, a_setVK_2, a_setVK_3, a_setVK_4, a_setVK_5, a_c, a_var, a_varK_0, a_varK_1, a_bin, a_binK_0, a_binK_1, a_binK_2, a_binK_3, a_oE_0, a_oE_1, a_un, a_unK_0, a_unK_1, a_unK_2, a_unK_3, a_test, a_tru, a_not, a_asB_0, a_asB_1, a_asB_2, a_asB_3, a_lst_0, a_lst_1, a_and, a_or, a_andK_0, a_andK_1, a_andK_2, a_andK_3, a_andK_4, a_andK_5, a_dIf, a_tand, a_tor, a_tnot, a_ifK_0, a_ifK_1, a_ifK_2, a_ifK_3, a_ifK_4, a_cons, a_consK_0, a_consK_1, a_consK_2, a_consK_3, a_consK_4, a_refA, a_refK_0, a_refK_1, a_refK_2, a_cb, a_tup, a_dLst, a_vals0, a_vals1, a_vals2, a_vals3, a_vals4, call_eq, callO_eq, a_call1, a_call2, a_call3, a_call4, a_rf0, a_rf1, a_rf2, a_rfK_0, a_rfK_1, a_rfK_2, a_end0_0, a_end0_1, a_end0_2, a_end0_3, a_end1, a_put1_0, a_put1_1, a_look, a_lkK_0, a_lkK_1, a_lkK_2, a_ixV, a_ixK_0, a_ixK_1, a_ixK_2, a_lenV, a_truV, a_len_0, a_len_1, a_len_2, a_len_3, a_len_4, a_it, a_rg1, a_rgL, a_en, a_zp, a_itK_0, a_itK_1, a_itK_2, a_itE_0, a_itE_1, a_comp, a_compK_0, a_compK_1, a_isi, a_gI_0, a_gI_1, a_gI_2, List.getElem?_cons_zero, List.getElem?_cons_succ, List.set_cons_zero, List.set_cons_succ, Option.bind_some, Option.map_some, f_nil, f_cons, f_some, f_nx, f_ct, f_bk, f_rt, f_ex, a_putV, a_pv0, a_pv1, a_put, a_sp0, a_sp1, a_sp2, a_sp3, a_sp4, a_app, a_sa1, a_sa2, a_aug, a_au1, a_au2, a_au3, gEq_int, gNe_int, ct_rf, ct_own, if_true, if_false, Bool.false_eq_true, a_try, a_tryK_0, a_tryK_1, a_tryK_2, a_tryH_0, a_tryH_1, a_tryK2_0, a_tryK2_1, a_hdS_0, a_hdS_1, a_compX, a_compKX_0, a_fld, a_meth, a_prop, a_propK, a_propE, a_make, a_makeK, a_makeE, a_putF, a_pfK, a_lkv, a_lkvK, a_dct1, a_dct1K, a_dct1K2, a_dct2, a_key, a_putK, a_pk0, a_pk1, a_pk2, a_rg2, a_rg2K, a_rg2K2, a_oL, e, cp, shl1]) d h
  refine ⟨r, d', ?_, hd', hl, hr⟩
  rw [o__law_single]
  simp -implicitDefEqProofs only [F__law_single, a_seq, a_expr, a_ret, a_retO, a_set, a_setO, a_if, a_unp, a_for, a_nil, a_retN, a_then_0, a_then_1, a_then_2, a_then_3, a_sK_0, a_sK_1, a_ifS_0, a_ifS_1, a_ifS_2, a_k_0, a_k_1, a_k_2, a_k_3, a_k_4, a_k_5, a_k_6, a_setV, a_setOd, a_setVK_0, a_setVK_1, a_setVK_2, a_setVK_3, a_setVK_4, a_setVK_5, a_c, a_var, a_varK_0, a_varK_1, a_bin, a_binK_0, a_binK_1, a_binK_2, a_binK_3, a_oE_0, a_oE_1, a_un, a_unK_0, a_unK_1, a_unK_2, a_unK_3, a_test, a_tru, a_not, a_asB_0, a_asB_1, a_asB_2, a_asB_3, a_lst_0, a_lst_1, a_and, a_or, a_andK_0, a_andK_1, a_andK_2, a_andK_3, a_andK_4, a_andK_5, a_dIf, a_tand, a_tor, a_tnot, a_ifK_0, a_ifK_1, a_ifK_2, a_ifK_3, a_ifK_4, a_cons, a_consK_0, a_consK_1, a_consK_2, a_consK_3, a_consK_4, a_refA, a_refK_0, a_refK_1, a_refK_2, a_cb, a_tup, a_dLst, a_vals0, a_vals1, a_vals2, a_vals3, a_vals4, call_eq, callO_eq, a_call1, a_call2, a_call3, a_call4, a_rf0, a_rf1, a_rf2, a_rfK_0, a_rfK_1, a_rfK_2, a_end0_0, a_end0_1, a_end0_2, a_end0_3, a_end1, a_put1_0, a_put1_1, a_look, a_lkK_0, a_lkK_1, a_lkK_2, a_ixV, a_ixK_0, a_ixK_1, a_ixK_2, a_lenV, a_truV, a_len_0, a_len_1, a_len_2, a_len_3, a_len_4, a_it, a_rg1, a_rgL, a_en, a_zp, a_itK_0, a_itK_1, a_itK_2, a_itE_0, a_itE_1, a_comp, a_compK_0, a_compK_1, a_isi, a_gI_0, a_gI_1, a_gI_2, List.getElem?_cons_zero, List.getElem?_cons_succ, List.set_cons_zero, List.set_cons_succ, Option.bind_some, Option.map_some, f_nil, f_cons, f_some, f_nx, f_ct, f_bk, f_rt, f_ex, a_putV, a_pv0, a_pv1, a_put, a_sp0, a_sp1, a_sp2, a_sp3, a_sp4, a_app, a_sa1, a_sa2, a_aug, a_au1, a_au2, a_au3, gEq_int, gNe_int, ct_rf, ct_own, if_true, if_false, Bool.false_eq_true, a_try, a_tryK_0, a_tryK_1, a_tryK_2, a_tryH_0, a_tryH_1, a_tryK2_0, a_tryK2_1, a_hdS_0, a_hdS_1, a_compX, a_compKX_0, a_fld, a_meth, a_prop, a_propK, a_propE, a_make, a_makeK, a_makeE, a_putF, a_pfK, a_lkv, a_lkvK, a_dct1, a_dct1K, a_dct1K2, a_dct2, a_key, a_putK, a_pk0, a_pk1, a_pk2, a_rg2, a_rg2K, a_rg2K2, a_oL, itF v (by omega), e]
  rfl
theorem drawn_ev (d : D) (v : Nat) (h : Hand d) (h1 : 1 ≤ v) (h2 : v ≤ 6) : ∃ (r : List Nat) (d' : D), fn__law_drawn_row [d, .int (v : Int)] = .ret (.lst (rowD r)) [d'] ∧ Hand d' ∧ r.length = v ∧ ∀ a ∈ r, a < 2 ^ v := by
  obtain ⟨w, d1, e, hd1, hw⟩ := take_nat d 8 h (by decide) (by decide)
  have e : fn__law_take [d, .int 8] = .ret (.int (w : Int)) [d1] := e
  have hp : 2 ^ v ≤ 2 ^ 6 := Nat.pow_le_pow_right (by decide) h2
  have hp0 : 0 < 2 ^ v := Nat.pow_pos (by decide)
  have cv : cPow 1 (v : Int) = true := cpw (by omega)
  rw [o__law_drawn_row]
  by_cases w3 : w < 3
  · obtain ⟨r, d2, e2, hd2, hl, hr⟩ := single_ev d1 v hd1 h1 h2
    have b : decide ((w : Int) < 3) = true := decide_eq_true (by omega)
    simp -implicitDefEqProofs only [F__law_drawn_row, a_seq, a_expr, a_ret, a_retO, a_set, a_setO, a_if, a_unp, a_for, a_nil, a_retN, a_then_0, a_then_1, a_then_2, a_then_3, a_sK_0, a_sK_1, a_ifS_0, a_ifS_1, a_ifS_2, a_k_0, a_k_1, a_k_2, a_k_3, a_k_4, a_k_5, a_k_6, a_setV, a_setOd, a_setVK_0, a_setVK_1, a_setVK_2, a_setVK_3, a_setVK_4, a_setVK_5, a_c, a_var, a_varK_0, a_varK_1, a_bin, a_binK_0, a_binK_1, a_binK_2, a_binK_3, a_oE_0, a_oE_1, a_un, a_unK_0, a_unK_1, a_unK_2, a_unK_3, a_test, a_tru, a_not, a_asB_0, a_asB_1, a_asB_2, a_asB_3, a_lst_0, a_lst_1, a_and, a_or, a_andK_0, a_andK_1, a_andK_2, a_andK_3, a_andK_4, a_andK_5, a_dIf, a_tand, a_tor, a_tnot, a_ifK_0, a_ifK_1, a_ifK_2, a_ifK_3, a_ifK_4, a_cons, a_consK_0, a_consK_1, a_consK_2, a_consK_3, a_consK_4, a_refA, a_refK_0, a_refK_1, a_refK_2, a_cb, a_tup, a_dLst, a_vals0, a_vals1, a_vals2, a_vals3, a_vals4, call_eq, callO_eq, a_call1, a_call2, a_call3, a_call4, a_rf0, a_rf1, a_rf2, a_rfK_0, a_rfK_1, a_rfK_2, a_end0_0, a_end0_1, a_end0_2, a_end0_3, a_end1, a_put1_0, a_put1_1, a_look, a_lkK_0, a_lkK_1, a_lkK_2, a_ixV, a_ixK_0, a_ixK_1, a_ixK_2, a_lenV, a_truV, a_len_0, a_len_1, a_len_2, a_len_3, a_len_4, a_it, a_rg1, a_rgL, a_en, a_zp, a_itK_0, a_itK_1, a_itK_2, a_itE_0, a_itE_1, a_comp, a_compK_0, a_compK_1, a_isi, a_gI_0, a_gI_1, a_gI_2, List.getElem?_cons_zero, List.getElem?_cons_succ, List.set_cons_zero, List.set_cons_succ, Option.bind_some, Option.map_some, f_nil, f_cons, f_some, f_nx, f_ct, f_bk, f_rt, f_ex, a_putV, a_pv0, a_pv1, a_put, a_sp0, a_sp1, a_sp2, a_sp3, a_sp4, a_app, a_sa1, a_sa2, a_aug, a_au1, a_au2, a_au3, gEq_int, gNe_int, ct_rf, ct_own, if_true, if_false, Bool.false_eq_true, a_try, a_tryK_0, a_tryK_1, a_tryK_2, a_tryH_0, a_tryH_1, a_tryK2_0, a_tryK2_1, a_hdS_0, a_hdS_1, a_compX, a_compKX_0, a_fld, a_meth, a_prop, a_propK, a_propE, a_make, a_makeK, a_makeE, a_putF, a_pfK, a_lkv, a_lkvK, a_dct1, a_dct1K, a_dct1K2, a_dct2, a_key, a_putK, a_pk0, a_pk1, a_pk2, a_rg2, a_rg2K, a_rg2K2, a_oL, e, b, e2]
    exact ⟨r, d2, rfl, hd2, hl, hr⟩
  · have b : decide ((w : Int) < 3) = false := decide_eq_false (by omega)
    by_cases w4 : ((w : Int) == 3) = true
    · obtain ⟨k, d2, e2, hd2, hk⟩ := take_nat d1 (2 ^ v) hd1 hp0 (by omega)
      obtain ⟨r, d', e3, hd', hl, hr⟩ := draw_rows (A := setV 5) (el := E__law_drawn_row_0) (vs := [5]) (Δ := fun x => [.rf x, .val (.int (v : Int)), .val (.int (w : Int)), .val (.int (k : Int)), .un, .un]) (Γ := fun x z => [.rf x, .val (.int (v : Int)), .val (.int (w : Int)), .val (.int (k : Int)), .un, .val z]) (m := 2 ^ v) (n := v) (fun _ => rfl) (fun _ _ => rfl) (fun _ _ _ => rfl) (by omega) (fun s x hs hx => by
        have cp : cPow 1 (s : Int) = true := cpw (by omega)
        refine ⟨2 ^ s &&& k, x, ?_, hx, Nat.lt_of_le_of_lt Nat.and_le_left (pw_lt hs)⟩
        simp -implicitDefEqProofs only [E__law_drawn_row_0, a_seq, a_expr, a_ret, a_retO, a_set, a_setO, a_if, a_unp, a_for, a_nil, a_retN, a_then_0, a_then_1, a_then_2, a_then_3, a_sK_0, a_sK_1, a_ifS_0, a_ifS_1, a_ifS_2, a_k_0, a_k_1, a_k_2, a_k_3, a_k_4, a_k_5, a_k_6, a_setV, a_setOd, a_setVK_0, a_setVK_1, a_setVK_2, a_setVK_3, a_setVK_4, a_setVK_5, a_c, a_var, a_varK_0, a_varK_1, a_bin, a_binK_0, a_binK_1, a_binK_2, a_binK_3, a_oE_0, a_oE_1, a_un, a_unK_0, a_unK_1, a_unK_2, a_unK_3, a_test, a_tru, a_not, a_asB_0, a_asB_1, a_asB_2, a_asB_3, a_lst_0, a_lst_1, a_and, a_or, a_andK_0, a_andK_1, a_andK_2, a_andK_3, a_andK_4, a_andK_5, a_dIf, a_tand, a_tor, a_tnot, a_ifK_0, a_ifK_1, a_ifK_2, a_ifK_3, a_ifK_4, a_cons, a_consK_0, a_consK_1, a_consK_2, a_consK_3, a_consK_4, a_refA, a_refK_0, a_refK_1, a_refK_2, a_cb, a_tup, a_dLst, a_vals0, a_vals1, a_vals2, a_vals3, a_vals4, call_eq, callO_eq, a_call1, a_call2, a_call3, a_call4, a_rf0, a_rf1, a_rf2, a_rfK_0, a_rfK_1, a_rfK_2, a_end0_0, a_end0_1, a_end0_2, a_end0_3, a_end1, a_put1_0, a_put1_1, a_look, a_lkK_0, a_lkK_1, a_lkK_2, a_ixV, a_ixK_0, a_ixK_1, a_ixK_2, a_lenV, a_truV, a_len_0, a_len_1, a_len_2, a_len_3, a_len_4, a_it, a_rg1, a_rgL, a_en, a_zp, a_itK_0, a_itK_1, a_itK_2, a_itE_0, a_itE_1, a_comp, a_compK_0, a_compK_1, a_isi, a_gI_0, a_gI_1, a_gI_2, List.getElem?_cons_zero, List.getElem?_cons_succ, List.set_cons_zero, List.set_cons_succ, Option.bind_some, Option.map_some, f_nil, f_cons, f_some, f_nx, f_ct, f_bk, f_rt, f_ex, a_putV, a_pv0, a_pv1, a_put, a_sp0, a_sp1, a_sp2, a_sp3, a_sp4, a_app, a_sa1, a_sa2, a_aug, a_au1, a_au2, a_au3, gEq_int, gNe_int, ct_rf, ct_own, if_true, if_false, Bool.false_eq_true, a_try, a_tryK_0, a_tryK_1, a_tryK_2, a_tryH_0, a_tryH_1, a_tryK2_0, a_tryK2_1, a_hdS_0, a_hdS_1, a_compX, a_compKX_0, a_fld, a_meth, a_prop, a_propK, a_propE, a_make, a_makeK, a_makeE, a_putF, a_pfK, a_lkv, a_lkvK, a_dct1, a_dct1K, a_dct1K2, a_dct2, a_key, a_putK, a_pk0, a_pk1, a_pk2, a_rg2, a_rg2K, a_rg2K2, a_oL, cp, shl1, band]) d2 hd2
      simp -implicitDefEqProofs only [F__law_drawn_row, a_seq, a_expr, a_ret, a_retO, a_set, a_setO, a_if, a_unp, a_for, a_nil, a_retN, a_then_0, a_then_1, a_then_2, a_then_3, a_sK_0, a_sK_1, a_ifS_0, a_ifS_1, a_ifS_2, a_k_0, a_k_1, a_k_2, a_k_3, a_k_4, a_k_5, a_k_6, a_setV, a_setOd, a_setVK_0, a_setVK_1, a_setVK_2, a_setVK_3, a_setVK_4, a_setVK_5, a_c, a_var, a_varK_0, a_varK_1, a_bin, a_binK_0, a_binK_1, a_binK_2, a_binK_3, a_oE_0, a_oE_1, a_un, a_unK_0, a_unK_1, a_unK_2, a_unK_3, a_test, a_tru, a_not, a_asB_0, a_asB_1, a_asB_2, a_asB_3, a_lst_0, a_lst_1, a_and, a_or, a_andK_0, a_andK_1, a_andK_2, a_andK_3, a_andK_4, a_andK_5, a_dIf, a_tand, a_tor, a_tnot, a_ifK_0, a_ifK_1, a_ifK_2, a_ifK_3, a_ifK_4, a_cons, a_consK_0, a_consK_1, a_consK_2, a_consK_3, a_consK_4, a_refA, a_refK_0, a_refK_1, a_refK_2, a_cb, a_tup, a_dLst, a_vals0, a_vals1, a_vals2, a_vals3, a_vals4, call_eq, callO_eq, a_call1, a_call2, a_call3, a_call4, a_rf0, a_rf1, a_rf2, a_rfK_0, a_rfK_1, a_rfK_2, a_end0_0, a_end0_1, a_end0_2, a_end0_3, a_end1, a_put1_0, a_put1_1, a_look, a_lkK_0, a_lkK_1, a_lkK_2, a_ixV, a_ixK_0, a_ixK_1, a_ixK_2, a_lenV, a_truV, a_len_0, a_len_1, a_len_2, a_len_3, a_len_4, a_it, a_rg1, a_rgL, a_en, a_zp, a_itK_0, a_itK_1, a_itK_2, a_itE_0, a_itE_1, a_comp, a_compK_0, a_compK_1, a_isi, a_gI_0, a_gI_1, a_gI_2, List.getElem?_cons_zero, List.getElem?_cons_succ, List.set_cons_zero, List.set_cons_succ, Option.bind_some, Option.map_some, f_nil, f_cons, f_some, f_nx, f_ct, f_bk, f_rt, f_ex, a_putV, a_pv0, a_pv1, a_put, a_sp0, a_sp1, a_sp2, a_sp3, a_sp4, a_app, a_sa1, a_sa2, a_aug, a_au1, a_au2, a_au3, gEq_int, gNe_int, ct_rf, ct_own, if_true, if_false, Bool.false_eq_true, a_try, a_tryK_0, a_tryK_1, a_tryK_2, a_tryH_0, a_tryH_1, a_tryK2_0, a_tryK2_1, a_hdS_0, a_hdS_1, a_compX, a_compKX_0, a_fld, a_meth, a_prop, a_propK, a_propE, a_make, a_makeK, a_makeE, a_putF, a_pfK, a_lkv, a_lkvK, a_dct1, a_dct1K, a_dct1K2, a_dct2, a_key, a_putK, a_pk0, a_pk1, a_pk2, a_rg2, a_rg2K, a_rg2K2, a_oL, e, b, w4, cv, shl1, e2, itF v (by omega), e3]
      exact ⟨r, d', rfl, hd', hl, hr⟩
    · have w4 : ((w : Int) == 3) = false := by simpa using w4
      by_cases w5 : ((w : Int) == 4) = true
      · obtain ⟨k, d2, e2, hd2, hk⟩ := take_nat d1 v hd1 (by omega) (by omega)
        obtain ⟨r, d', e3, hd', hl, hr⟩ := draw_rows (A := setV 5) (el := E__law_drawn_row_1) (vs := [5]) (Δ := fun x => [.rf x, .val (.int (v : Int)), .val (.int (w : Int)), .un, .val (.int (k : Int)), .un]) (Γ := fun x z => [.rf x, .val (.int (v : Int)), .val (.int (w : Int)), .un, .val (.int (k : Int)), .val z]) (m := 2 ^ v) (n := v) (fun _ => rfl) (fun _ _ => rfl) (fun _ _ _ => rfl) (by omega) (fun s x hs hx => by
          by_cases sk : ((s : Int) == (k : Int)) = true
          · obtain ⟨t, x', e, hx', ht⟩ := take_nat x v hx (by omega) (by omega)
            have cp : cPow 1 (t : Int) = true := cpw (by omega)
            refine ⟨2 ^ t, x', ?_, hx', pw_lt ht⟩
            simp -implicitDefEqProofs only [E__law_drawn_row_1, a_seq, a_expr, a_ret, a_retO, a_set, a_setO, a_if, a_unp, a_for, a_nil, a_retN, a_then_0, a_then_1, a_then_2, a_then_3, a_sK_0, a_sK_1, a_ifS_0, a_ifS_1, a_ifS_2, a_k_0, a_k_1, a_k_2, a_k_3, a_k_4, a_k_5, a_k_6, a_setV, a_setOd, a_setVK_0, a_setVK_1, a_setVK_2, a_setVK_3, a_setVK_4, a_setVK_5, a_c, a_var, a_varK_0, a_varK_1, a_bin, a_binK_0, a_binK_1, a_binK_2, a_binK_3, a_oE_0, a_oE_1, a_un, a_unK_0, a_unK_1, a_unK_2, a_unK_3, a_test, a_tru, a_not, a_asB_0, a_asB_1, a_asB_2, a_asB_3, a_lst_0, a_lst_1, a_and, a_or, a_andK_0, a_andK_1, a_andK_2, a_andK_3, a_andK_4, a_andK_5, a_dIf, a_tand, a_tor, a_tnot, a_ifK_0, a_ifK_1, a_ifK_2, a_ifK_3, a_ifK_4, a_cons, a_consK_0, a_consK_1, a_consK_2, a_consK_3, a_consK_4, a_refA, a_refK_0, a_refK_1, a_refK_2, a_cb, a_tup, a_dLst, a_vals0, a_vals1, a_vals2, a_vals3, a_vals4, call_eq, callO_eq, a_call1, a_call2, a_call3, a_call4, a_rf0, a_rf1, a_rf2, a_rfK_0, a_rfK_1, a_rfK_2, a_end0_0, a_end0_1, a_end0_2, a_end0_3, a_end1, a_put1_0, a_put1_1, a_look, a_lkK_0, a_lkK_1, a_lkK_2, a_ixV, a_ixK_0, a_ixK_1, a_ixK_2, a_lenV, a_truV, a_len_0, a_len_1, a_len_2, a_len_3, a_len_4, a_it, a_rg1, a_rgL, a_en, a_zp, a_itK_0, a_itK_1, a_itK_2, a_itE_0, a_itE_1, a_comp, a_compK_0, a_compK_1, a_isi, a_gI_0, a_gI_1, a_gI_2, List.getElem?_cons_zero, List.getElem?_cons_succ, List.set_cons_zero, List.set_cons_succ, Option.bind_some, Option.map_some, f_nil, f_cons, f_some, f_nx, f_ct, f_bk, f_rt, f_ex, a_putV, a_pv0, a_pv1, a_put, a_sp0, a_sp1, a_sp2, a_sp3, a_sp4, a_app, a_sa1, a_sa2, a_aug, a_au1, a_au2, a_au3, gEq_int, gNe_int, ct_rf, ct_own, if_true, if_false, Bool.false_eq_true, a_try, a_tryK_0, a_tryK_1, a_tryK_2, a_tryH_0, a_tryH_1, a_tryK2_0, a_tryK2_1, a_hdS_0, a_hdS_1, a_compX, a_compKX_0, a_fld, a_meth, a_prop, a_propK, a_propE, a_make, a_makeK, a_makeE, a_putF, a_pfK, a_lkv, a_lkvK, a_dct1, a_dct1K, a_dct1K2, a_dct2, a_key, a_putK, a_pk0, a_pk1, a_pk2, a_rg2, a_rg2K, a_rg2K2, a_oL, sk, Bool.not_true, e, cp, shl1]
          · have sk : ((s : Int) == (k : Int)) = false := by simpa using sk
            have cp : cPow 1 (s : Int) = true := cpw (by omega)
            refine ⟨2 ^ s, x, ?_, hx, pw_lt hs⟩
            simp -implicitDefEqProofs only [E__law_drawn_row_1, a_seq, a_expr, a_ret, a_retO, a_set, a_setO, a_if, a_unp, a_for, a_nil, a_retN, a_then_0, a_then_1, a_then_2, a_then_3, a_sK_0, a_sK_1, a_ifS_0, a_ifS_1, a_ifS_2, a_k_0, a_k_1, a_k_2, a_k_3, a_k_4, a_k_5, a_k_6, a_setV, a_setOd, a_setVK_0, a_setVK_1, a_setVK_2, a_setVK_3, a_setVK_4, a_setVK_5, a_c, a_var, a_varK_0, a_varK_1, a_bin, a_binK_0, a_binK_1, a_binK_2, a_binK_3, a_oE_0, a_oE_1, a_un, a_unK_0, a_unK_1, a_unK_2, a_unK_3, a_test, a_tru, a_not, a_asB_0, a_asB_1, a_asB_2, a_asB_3, a_lst_0, a_lst_1, a_and, a_or, a_andK_0, a_andK_1, a_andK_2, a_andK_3, a_andK_4, a_andK_5, a_dIf, a_tand, a_tor, a_tnot, a_ifK_0, a_ifK_1, a_ifK_2, a_ifK_3, a_ifK_4, a_cons, a_consK_0, a_consK_1, a_consK_2, a_consK_3, a_consK_4, a_refA, a_refK_0, a_refK_1, a_refK_2, a_cb, a_tup, a_dLst, a_vals0, a_vals1, a_vals2, a_vals3, a_vals4, call_eq, callO_eq, a_call1, a_call2, a_call3, a_call4, a_rf0, a_rf1, a_rf2, a_rfK_0, a_rfK_1, a_rfK_2, a_end0_0, a_end0_1, a_end0_2, a_end0_3, a_end1, a_put1_0, a_put1_1, a_look, a_lkK_0, a_lkK_1, a_lkK_2, a_ixV, a_ixK_0, a_ixK_1, a_ixK_2, a_lenV, a_truV, a_len_0, a_len_1, a_len_2, a_len_3, a_len_4, a_it, a_rg1, a_rgL, a_en, a_zp, a_itK_0, a_itK_1, a_itK_2, a_itE_0, a_itE_1, a_comp, a_compK_0, a_compK_1, a_isi, a_gI_0, a_gI_1, a_gI_2, List.getElem?_cons_zero, List.getElem?_cons_succ, List.set_cons_zero, List.set_cons_succ, Option.bind_some, Option.map_some, f_nil, f_cons, f_some, f_nx, f_ct, f_bk, f_rt, f_ex, a_putV, a_pv0, a_pv1, a_put, a_sp0, a_sp1, a_sp2, a_sp3, a_sp4, a_app, a_sa1, a_sa2, a_aug, a_au1, a_au2, a_au3, gEq_int, gNe_int, ct_rf, ct_own, if_true, if_false, Bool.false_eq_true, a_try, a_tryK_0, a_tryK_1, a_tryK_2, a_tryH_0, a_tryH_1, a_tryK2_0, a_tryK2_1, a_hdS_0, a_hdS_1, a_compX, a_compKX_0, a_fld, a_meth, a_prop, a_propK, a_propE, a_make, a_makeK, a_makeE, a_putF, a_pfK, a_lkv, a_lkvK, a_dct1, a_dct1K, a_dct1K2, a_dct2, a_key, a_putK, a_pk0, a_pk1, a_pk2, a_rg2, a_rg2K, a_rg2K2, a_oL, sk, Bool.not_false, cp, shl1]) d2 hd2
        simp -implicitDefEqProofs only [F__law_drawn_row, a_seq, a_expr, a_ret, a_retO, a_set, a_setO, a_if, a_unp, a_for, a_nil, a_retN, a_then_0, a_then_1, a_then_2, a_then_3, a_sK_0, a_sK_1, a_ifS_0, a_ifS_1, a_ifS_2, a_k_0, a_k_1, a_k_2, a_k_3, a_k_4, a_k_5, a_k_6, a_setV, a_setOd, a_setVK_0, a_setVK_1, a_setVK_2, a_setVK_3, a_setVK_4, a_setVK_5, a_c, a_var, a_varK_0, a_varK_1, a_bin, a_binK_0, a_binK_1, a_binK_2, a_binK_3, a_oE_0, a_oE_1, a_un, a_unK_0, a_unK_1, a_unK_2, a_unK_3, a_test, a_tru, a_not, a_asB_0, a_asB_1, a_asB_2, a_asB_3, a_lst_0, a_lst_1, a_and, a_or, a_andK_0, a_andK_1, a_andK_2, a_andK_3, a_andK_4, a_andK_5, a_dIf, a_tand, a_tor, a_tnot, a_ifK_0, a_ifK_1, a_ifK_2, a_ifK_3, a_ifK_4, a_cons, a_consK_0, a_consK_1, a_consK_2, a_consK_3, a_consK_4, a_refA, a_refK_0, a_refK_1, a_refK_2, a_cb, a_tup, a_dLst, a_vals0, a_vals1, a_vals2, a_vals3, a_vals4, call_eq, callO_eq, a_call1, a_call2, a_call3, a_call4, a_rf0, a_rf1, a_rf2, a_rfK_0, a_rfK_1, a_rfK_2, a_end0_0, a_end0_1, a_end0_2, a_end0_3, a_end1, a_put1_0, a_put1_1, a_look, a_lkK_0, a_lkK_1, a_lkK_2, a_ixV, a_ixK_0, a_ixK_1, a_ixK_2, a_lenV, a_truV, a_len_0, a_len_1, a_len_2, a_len_3, a_len_4, a_it, a_rg1, a_rgL, a_en, a_zp, a_itK_0, a_itK_1, a_itK_2, a_itE_0, a_itE_1, a_comp, a_compK_0, a_compK_1, a_isi, a_gI_0, a_gI_1, a_gI_2, List.getElem?_cons_zero, List.getElem?_cons_succ, List.set_cons_zero, List.set_cons_succ, Option.bind_some, Option.map_some, f_nil, f_cons, f_some, f_nx, f_ct, f_bk, f_rt, f_ex, a_putV, a_pv0, a_pv1, a_put, a_sp0, a_sp1, a_sp2, a_sp3, a_sp4, a_app, a_sa1, a_sa2, a_aug, a_au1, a_au2, a_au3, gEq_int, gNe_int, ct_rf, ct_own, if_true, if_false, Bool.false_eq_true, a_try, a_tryK_0, a_tryK_1, a_tryK_2, a_tryH_0, a_tryH_1, a_tryK2_0, a_tryK2_1, a_hdS_0, a_hdS_1, a_compX, a_compKX_0, a_fld, a_meth, a_prop, a_propK, a_propE, a_make, a_makeK, a_makeE, a_putF, a_pfK, a_lkv, a_lkvK, a_dct1, a_dct1K, a_dct1K2, a_dct2, a_key, a_putK, a_pk0, a_pk1, a_pk2, a_rg2, a_rg2K, a_rg2K2, a_oL, e, b, w4, w5, cv, shl1, e2, itF v (by omega), e3]
        exact ⟨r, d', rfl, hd', hl, hr⟩
      · have w5 : ((w : Int) == 4) = false := by simpa using w5
        by_cases w6 : ((w : Int) == 5) = true
        · obtain ⟨r, d', e3, hd', hl, hr⟩ := draw_rows (A := setV 5) (el := E__law_drawn_row_2) (vs := [5]) (Δ := fun x => [.rf x, .val (.int (v : Int)), .val (.int (w : Int)), .un, .un, .un]) (Γ := fun x z => [.rf x, .val (.int (v : Int)), .val (.int (w : Int)), .un, .un, .val z]) (m := 2 ^ v) (n := v) (fun _ => rfl) (fun _ _ => rfl) (fun _ _ _ => rfl) (by omega) (fun s x hs hx => by
            obtain ⟨t, x1, e1, hx1, ht⟩ := take_nat x 3 hx (by decide) (by decide)
            have e1 : fn__law_take [x, .int 3] = .ret (.int (t : Int)) [x1] := e1
            by_cases t0 : t = 0
            · subst t0
              refine ⟨0, x1, ?_, hx1, hp0⟩
              simp -implicitDefEqProofs only [E__law_drawn_row_2, a_seq, a_expr, a_ret, a_retO, a_set, a_setO, a_if, a_unp, a_for, a_nil, a_retN, a_then_0, a_then_1, a_then_2, a_then_3, a_sK_0, a_sK_1, a_ifS_0, a_ifS_1, a_ifS_2, a_k_0, a_k_1, a_k_2, a_k_3, a_k_4, a_k_5, a_k_6, a_setV, a_setOd, a_setVK_0, a_setVK_1, a_setVK_2, a_setVK_3, a_setVK_4, a_setVK_5, a_c, a_var, a_varK_0, a_varK_1, a_bin, a_binK_0, a_binK_1, a_binK_2, a_binK_3, a_oE_0, a_oE_1, a_un, a_unK_0, a_unK_1, a_unK_2, a_unK_3, a_test, a_tru, a_not, a_asB_0, a_asB_1, a_asB_2, a_asB_3, a_lst_0, a_lst_1, a_and, a_or, a_andK_0, a_andK_1, a_andK_2, a_andK_3, a_andK_4, a_andK_5, a_dIf, a_tand, a_tor, a_tnot, a_ifK_0, a_ifK_1, a_ifK_2, a_ifK_3, a_ifK_4, a_cons, a_consK_0, a_consK_1, a_consK_2, a_consK_3, a_consK_4, a_refA, a_refK_0, a_refK_1, a_refK_2, a_cb, a_tup, a_dLst, a_vals0, a_vals1, a_vals2, a_vals3, a_vals4, call_eq, callO_eq, a_call1, a_call2, a_call3, a_call4, a_rf0, a_rf1, a_rf2, a_rfK_0, a_rfK_1, a_rfK_2, a_end0_0, a_end0_1, a_end0_2, a_end0_3, a_end1, a_put1_0, a_put1_1, a_look, a_lkK_0, a_lkK_1, a_lkK_2, a_ixV, a_ixK_0, a_ixK_1, a_ixK_2, a_lenV, a_truV, a_len_0, a_len_1, a_len_2, a_len_3, a_len_4, a_it, a_rg1, a_rgL, a_en, a_zp, a_itK_0, a_itK_1, a_itK_2, a_itE_0, a_itE_1, a_comp, a_compK_0, a_compK_1, a_isi, a_gI_0, a_gI_1, a_gI_2, List.getElem?_cons_zero, List.getElem?_cons_succ, List.set_cons_zero, List.set_cons_succ, Option.bind_some, Option.map_some, f_nil, f_cons, f_some, f_nx, f_ct, f_bk, f_rt, f_ex, a_putV, a_pv0, a_pv1, a_put, a_sp0, a_sp1, a_sp2, a_sp3, a_sp4, a_app, a_sa1, a_sa2, a_aug, a_au1, a_au2, a_au3, gEq_int, gNe_int, ct_rf, ct_own, if_true, if_false, Bool.false_eq_true, a_try, a_tryK_0, a_tryK_1, a_tryK_2, a_tryH_0, a_tryH_1, a_tryK2_0, a_tryK2_1, a_hdS_0, a_hdS_1, a_compX, a_compKX_0, a_fld, a_meth, a_prop, a_propK, a_propE, a_make, a_makeK, a_makeE, a_putF, a_pfK, a_lkv, a_lkvK, a_dct1, a_dct1K, a_dct1K2, a_dct2, a_key, a_putK, a_pk0, a_pk1, a_pk2, a_rg2, a_rg2K, a_rg2K2, a_oL, e1, nz0]
              rfl
            · obtain ⟨t2, x2, e2, hx2, ht2⟩ := take_nat x1 v hx1 (by omega) (by omega)
              have cp : cPow 1 (t2 : Int) = true := cpw (by omega)
              refine ⟨2 ^ t2, x2, ?_, hx2, pw_lt ht2⟩
              simp -implicitDefEqProofs only [E__law_drawn_row_2, a_seq, a_expr, a_ret, a_retO, a_set, a_setO, a_if, a_unp, a_for, a_nil, a_retN, a_then_0, a_then_1, a_then_2, a_then_3, a_sK_0, a_sK_1, a_ifS_0, a_ifS_1, a_ifS_2, a_k_0, a_k_1, a_k_2, a_k_3, a_k_4, a_k_5, a_k_6, a_setV, a_setOd, a_setVK_0, a_setVK_1, a_setVK_2, a_setVK_3, a_setVK_4, a_setVK_5, a_c, a_var, a_varK_0, a_varK_1, a_bin, a_binK_0, a_binK_1, a_binK_2, a_binK_3, a_oE_0, a_oE_1, a_un, a_unK_0, a_unK_1, a_unK_2, a_unK_3, a_test, a_tru, a_not, a_asB_0, a_asB_1, a_asB_2, a_asB_3, a_lst_0, a_lst_1, a_and, a_or, a_andK_0, a_andK_1, a_andK_2, a_andK_3, a_andK_4, a_andK_5, a_dIf, a_tand, a_tor, a_tnot, a_ifK_0, a_ifK_1, a_ifK_2, a_ifK_3, a_ifK_4, a_cons, a_consK_0, a_consK_1, a_consK_2, a_consK_3, a_consK_4, a_refA, a_refK_0, a_refK_1, a_refK_2, a_cb, a_tup, a_dLst, a_vals0, a_vals1, a_vals2, a_vals3, a_vals4, call_eq, callO_eq, a_call1, a_call2, a_call3, a_call4, a_rf0, a_rf1, a_rf2, a_rfK_0, a_rfK_1, a_rfK_2, a_end0_0, a_end0_1, a_end0_2, a_end0_3, a_end1, a_put1_0, a_put1_1, a_look, a_lkK_0, a_lkK_1, a_lkK_2, a_ixV, a_ixK_0, a_ixK_1, a_ixK_2, a_lenV, a_truV, a_len_0, a_len_1, a_len_2, a_len_3, a_len_4, a_it, a_rg1, a_rgL, a_en, a_zp, a_itK_0, a_itK_1, a_itK_2, a_itE_0, a_itE_1, a_comp, a_compK_0, a_compK_1, a_isi, a_gI_0, a_gI_1, a_gI_2, List.getElem?_cons_zero, List.getElem?_cons_succ, List.set_cons_zero, List.set_cons_succ, Option.bind_some, Option.map_some, f_nil, f_cons, f_some, f_nx, f_ct, f_bk, f_rt, f_ex, a_putV, a_pv0, a_pv1, a_put, a_sp0, a_sp1, a_sp2, a_sp3, a_sp4, a_app, a_sa1, a_sa2, a_aug, a_au1, a_au2, a_au3, gEq_int, gNe_int, ct_rf, ct_own, if_true, if_false, Bool.false_eq_true, a_try, a_tryK_0, a_tryK_1, a_tryK_2, a_tryH_0, a_tryH_1, a_tryK2_0, a_tryK2_1, a_hdS_0, a_hdS_1, a_compX, a_compKX_0, a_fld, a_meth, a_prop, a_propK, a_propE, a_make, a_makeK, a_makeE, a_putF, a_pfK, a_lkv, a_lkvK, a_dct1, a_dct1K, a_dct1K2, a_dct2, a_key, a_putK, a_pk0, a_pk1, a_pk2, a_rg2, a_rg2K, a_rg2K2, a_oL, e1, nz t t0, e2, cp, shl1]) d1 hd1
          simp -implicitDefEqProofs only [F__law_drawn_row, a_seq, a_expr, a_ret, a_retO, a_set, a_setO, a_if, a_unp, a_for, a_nil, a_retN, a_then_0, a_then_1, a_then_2, a_then_3, a_sK_0, a_sK_1, a_ifS_0, a_ifS_1, a_ifS_2, a_k_0, a_k_1, a_k_2, a_k_3, a_k_4, a_k_5, a_k_6, a_setV, a_setOd, a_setVK_0, a_setVK_1, a_setVK_2, a_setVK_3, a_setVK_4, a_setVK_5, a_c, a_var, a_varK_0, a_varK_1, a_bin, a_binK_0, a_binK_1, a_binK_2, a_binK_3, a_oE_0, a_oE_1, a_un, a_unK_0, a_unK_1, a_unK_2, a_unK_3, a_test, a_tru, a_not, a_asB_0, a_asB_1, a_asB_2, a_asB_3, a_lst_0, a_lst_1, a_and, a_or, a_andK_0, a_andK_1, a_andK_2, a_andK_3, a_andK_4, a_andK_5, a_dIf, a_tand, a_tor, a_tnot, a_ifK_0, a_ifK_1, a_ifK_2, a_ifK_3, a_ifK_4, a_cons, a_consK_0, a_consK_1, a_consK_2, a_consK_3, a_consK_4, a_refA, a_refK_0, a_refK_1, a_refK_2, a_cb, a_tup, a_dLst, a_vals0, a_vals1, a_vals2, a_vals3, a_vals4, call_eq, callO_eq, a_call1, a_call2, a_call3, a_call4, a_rf0, a_rf1, a_rf2, a_rfK_0, a_rfK_1, a_rfK_2, a_end0_0, a_end0_1, a_end0_2, a_end0_3, a_end1, a_put1_0, a_put1_1, a_look, a_lkK_0, a_lkK_1, a_lkK_2, a_ixV, a_ixK_0, a_ixK_1, a_ixK_2, a_lenV, a_truV, a_len_0, a_len_1, a_len_2, a_len_3, a_len_4, a_it, a_rg1, a_rgL, a_en, a_zp, a_itK_0, a_itK_1, a_itK_2, a_itE_0, a_itE_1, a_comp, a_compK_0, a_compK_1, a_isi, a_gI_0, a_gI_1, a_gI_2, List.getElem?_cons_zero, List.getElem?_cons_succ, List.set_cons_zero, List.set_cons_succ, Option.bind_some, Option.map_some, f_nil, f_cons, f_some, f_nx, f_ct, f_bk, f_rt, f_ex, a_putV, a_pv0, a_pv1, a_put, a_sp0, a_sp1, a_sp2, a_sp3, a_sp4, a_app, a_sa1, a_sa2, a_aug, a_au1, a_au2, a_au3, gEq_int, gNe_int, ct_rf, ct_own, if_true, if_false, Bool.false_eq_true, a_try, a_tryK_0, a_tryK_1, a_tryK_2, a_tryH_0, a_tryH_1, a_tryK2_0, a_tryK2_1, a_hdS_0, a_hdS_1, a_compX, a_compKX_0, a_fld, a_meth, a_prop, a_propK, a_propE, a_make, a_makeK, a_makeE, a_putF, a_pfK, a_lkv, a_lkvK, a_dct1, a_dct1K, a_dct1K2, a_dct2, a_key, a_putK, a_pk0, a_pk1, a_pk2, a_rg2, a_rg2K, a_rg2K2, a_oL, e, b, w4, w5, w6, itF v (by omega), e3]
          exact ⟨r, d', rfl, hd', hl, hr⟩
        · have w6 : ((w : Int) == 5) = false := by simpa using w6
          obtain ⟨r, d', e3, hd', hl, hr⟩ := draw_rows (A := setV 5) (el := E__law_drawn_row_3) (vs := [5]) (Δ := fun x => [.rf x, .val (.int (v : Int)), .val (.int (w : Int)), .un, .un, .un]) (Γ := fun x z => [.rf x, .val (.int (v : Int)), .val (.int (w : Int)), .un, .un, .val z]) (m := 2 ^ v) (n := v) (fun _ => rfl) (fun _ _ => rfl) (fun _ _ _ => rfl) (by omega) (fun s x hs hx => by
            obtain ⟨t, x1, e1, hx1, ht⟩ := take_nat x (2 ^ v) hx hp0 (by omega)
            refine ⟨t, x1, ?_, hx1, ht⟩
            simp -implicitDefEqProofs only [E__law_drawn_row_3, a_seq, a_expr, a_ret, a_retO, a_set, a_setO, a_if, a_unp, a_for, a_nil, a_retN, a_then_0, a_then_1, a_then_2, a_then_3, a_sK_0, a_sK_1, a_ifS_0, a_ifS_1, a_ifS_2, a_k_0, a_k_1, a_k_2, a_k_3, a_k_4, a_k_5, a_k_6, a_setV, a_setOd, a_setVK_0, a_setVK_1, a_setVK_2, a_setVK_3, a_setVK_4, a_setVK_5, a_c, a_var, a_varK_0, a_varK_1, a_bin, a_binK_0, a_binK_1, a_binK_2, a_binK_3, a_oE_0, a_oE_1, a_un, a_unK_0, a_unK_1, a_unK_2, a_unK_3, a_test, a_tru, a_not, a_asB_0, a_asB_1, a_asB_2, a_asB_3, a_lst_0, a_lst_1, a_and, a_or, a_andK_0, a_andK_1, a_andK_2, a_andK_3, a_andK_4, a_andK_5, a_dIf, a_tand, a_tor, a_tnot, a_ifK_0, a_ifK_1, a_ifK_2, a_ifK_3, a_ifK_4, a_cons, a_consK_0, a_consK_1, a_consK_2, a_consK_3, a_consK_4, a_refA, a_refK_0, a_refK_1, a_refK_2, a_cb, a_tup, a_dLst, a_vals0, a_vals1, a_vals2, a_vals3, a_vals4, call_eq, callO_eq, a_call1, a_call2, a_call3, a_call4, a_rf0, a_rf1, a_rf2, a_rfK_0, a_rfK_1, a_rfK_2, a_end0_0, a_end0_1, a_end0_2, a_end0_3, a_end1, a_put1_0, a_put1_1, a_look, a_lkK_0, a_lkK_1, a_lkK_2, a_ixV, a_ixK_0, a_ixK_1, a_ixK_2, a_lenV, a_truV, a_len_0, a_len_1, a_len_2, a_len_3, a_len_4, a_it, a_rg1, a_rgL, a_en, a_zp, a_itK_0, a_itK_1, a_itK_2, a_itE_0, a_itE_1, a_comp, a_compK_0, a_compK_1, a_isi, a_gI_0, a_gI_1, a_gI_2, List.getElem?_cons_zero, List.getElem?_cons_succ, List.set_cons_zero, List.set_cons_succ, Option.bind_some, Option.map_some, f_nil, f_cons, f_some, f_nx, f_ct, f_bk, f_rt, f_ex, a_putV, a_pv0, a_pv1, a_put, a_sp0, a_sp1, a_sp2, a_sp3, a_sp4, a_app, a_sa1, a_sa2, a_aug, a_au1, a_au2, a_au3, gEq_int, gNe_int, ct_rf, ct_own, if_true, if_false, Bool.false_eq_true, a_try, a_tryK_0, a_tryK_1, a_tryK_2, a_tryH_0, a_tryH_1, a_tryK2_0, a_tryK2_1, a_hdS_0, a_hdS_1, a_compX, a_compKX_0, a_fld, a_meth, a_prop, a_propK, a_propE, a_make, a_makeK, a_makeE, a_putF, a_pfK, a_lkv, a_lkvK, a_dct1, a_dct1K, a_dct1K2, a_dct2, a_key, a_putK, a_pk0, a_pk1, a_pk2, a_rg2, a_rg2K, a_rg2K2, a_oL, cv, shl1, e1]) d1 hd1
          simp -implicitDefEqProofs only [F__law_drawn_row, a_seq, a_expr, a_ret, a_retO, a_set, a_setO, a_if, a_unp, a_for, a_nil, a_retN, a_then_0, a_then_1, a_then_2, a_then_3, a_sK_0, a_sK_1, a_ifS_0, a_ifS_1, a_ifS_2, a_k_0, a_k_1, a_k_2, a_k_3, a_k_4, a_k_5, a_k_6, a_setV, a_setOd, a_setVK_0, a_setVK_1, a_setVK_2, a_setVK_3, a_setVK_4, a_setVK_5, a_c, a_var, a_varK_0, a_varK_1, a_bin, a_binK_0, a_binK_1, a_binK_2, a_binK_3, a_oE_0, a_oE_1, a_un, a_unK_0, a_unK_1, a_unK_2, a_unK_3, a_test, a_tru, a_not, a_asB_0, a_asB_1, a_asB_2, a_asB_3, a_lst_0, a_lst_1, a_and, a_or, a_andK_0, a_andK_1, a_andK_2, a_andK_3, a_andK_4, a_andK_5, a_dIf, a_tand, a_tor, a_tnot, a_ifK_0, a_ifK_1, a_ifK_2, a_ifK_3, a_ifK_4, a_cons, a_consK_0, a_consK_1, a_consK_2, a_consK_3, a_consK_4, a_refA, a_refK_0, a_refK_1, a_refK_2, a_cb, a_tup, a_dLst, a_vals0, a_vals1, a_vals2, a_vals3, a_vals4, call_eq, callO_eq, a_call1, a_call2, a_call3, a_call4, a_rf0, a_rf1, a_rf2, a_rfK_0, a_rfK_1, a_rfK_2, a_end0_0, a_end0_1, a_end0_2, a_end0_3, a_end1, a_put1_0, a_put1_1, a_look, a_lkK_0, a_lkK_1, a_lkK_2, a_ixV, a_ixK_0, a_ixK_1, a_ixK_2, a_lenV, a_truV, a_len_0, a_len_1, a_len_2, a_len_3, a_len_4, a_it, a_rg1, a_rgL, a_en, a_zp, a_itK_0, a_itK_1, a_itK_2, a_itE_0, a_itE_1, a_comp, a_compK_0, a_compK_1, a_isi, a_gI_0, a_gI_1, a_gI_2, List.getElem?_cons_zero, List.getElem?_cons_succ, List.set_cons_zero, List.set_cons_succ, Option.bind_some, Option.map_some, f_nil, f_cons, f_some, f_nx, f_ct, f_bk, f_rt, f_ex, a_putV, a_pv0, a_pv1, a_put, a_sp0, a_sp1, a_sp2, a_sp3, a_sp4, a_app, a_sa1, a_sa2, a_aug, a_au1, a_au2, a_au3, gEq_int, gNe_int, ct_rf, ct_own, if_true, if_false, Bool.false_eq_true, a_try, a_tryK_0, a_tryK_1, a_tryK_2, a_tryH_0, a_tryH_1, a_tryK2_0, a_tryK2_1, a_hdS_0, a_hdS_1, a_compX, a_compKX_0, a_fld, a_meth, a_prop, a_propK, a_propE, a_make, a_makeK, a_makeE, a_putF, a_pfK, a_lkv, a_lkvK, a_dct1, a_dct1K, a_dct1K2, a_dct2, a_key, a_putK, a_pk0, a_pk1, a_pk2, a_rg2, a_rg2K, a_rg2K2, a_oL, e, b, w4, w5, w6, itF v (by omega), e3]
          exact ⟨r, d', rfl, hd', hl, hr⟩
end LW

set_option maxRecDepth 100000
set_option maxHeartbeats 2000000
namespace LW
open PySem PySem.Spec PyProof.Rows L2 DL
theorem t1 : (["bool"].any (subT "int")) = false := by decide
theorem whole_ev (a lo hi : Int) (h1 : lo ≤ a) (h2 : a ≤ hi) : fn_is_whole [.int a, .int lo, .int hi] = .ret (.bl true) [] := by
  rw [o_is_whole]
  have b1 : decide (a < lo) = false := decide_eq_false (by omega)
  have b2 : decide (a ≤ hi) = true := decide_eq_true h2
  simp -implicitDefEqProofs only [F_is_whole, a_seq, a_expr, a_ret, a_retO, a_set, a_setO, a_if, a_unp, a_for, a_nil, a_retN, a_then_0, a_then_1, a_then_2, a_then_3, a_sK_0, a_sK_1, a_ifS_0, a_ifS_1, a_ifS_2, a_k_0, a_k_1, a_k_2, a_k_3, a_k_4, a_k_5, a_k_6, a_setV, a_setOd, a_setVK_0, a_setVK_1, a_setVK_2, a_setVK_3, a_setVK_4, a_setVK_5, a_c, a_var, a_varK_0, a_varK_1, a_bin, a_binK_0, a_binK_1, a_binK_2, a_binK_3, a_oE_0, a_oE_1, a_un, a_unK_0, a_unK_1, a_unK_2, a_unK_3, a_test, a_tru, a_not, a_asB_0, a_asB_1, a_asB_2, a_asB_3, a_lst_0, a_lst_1, a_and, a_or, a_andK_0, a_andK_1, a_andK_2, a_andK_3, a_andK_4, a_andK_5, a_dIf, a_tand, a_tor, a_tnot, a_ifK_0, a_ifK_1, a_ifK_2, a_ifK_3, a_ifK_4, a_cons, a_consK_0, a_consK_1, a_consK_2, a_consK_3, a_consK_4, a_refA, a_refK_0, a_refK_1, a_refK_2, a_cb, a_tup, a_dLst, a_vals0, a_vals1, a_vals2, a_vals3, a_vals4, call_eq, callO_eq, a_call1, a_call2, a_call3, a_call4, a_rf0, a_rf1, a_rf2, a_rfK_0, a_rfK_1, a_rfK_2, a_end0_0, a_end0_1, a_end0_2, a_end0_3, a_end1, a_put1_0, a_put1_1, a_look, a_lkK_0, a_lkK_1, a_lkK_2, a_ixV, a_ixK_0, a_ixK_1, a_ixK_2, a_lenV, a_truV, a_len_0, a_len_1, a_len_2, a_len_3, a_len_4, a_it, a_rg1, a_rgL, a_en, a_zp, a_itK_0, a_itK_1, a_itK_2, a_itE_0, a_itE_1, a_comp, a_compK_0, a_compK_1, a_isi, a_gI_0, a_gI_1, a_gI_2, List.getElem?_cons_zero, List.getElem?_cons_succ, List.set_cons_zero, List.set_cons_succ, Option.bind_some, Option.map_some, f_nil, f_cons, f_some, f_nx, f_ct, f_bk, f_rt, f_ex, a_putV, a_pv0, a_pv1, a_put, a_sp0, a_sp1, a_sp2, a_sp3, a_sp4, a_app, a_sa1, a_sa2, a_aug, a_au1, a_au2, a_au3, gEq_int, gNe_int, ct_rf, ct_own, if_true, if_false, Bool.false_eq_true, a_try, a_tryK_0, a_tryK_1, a_tryK_2, a_tryH_0, a_tryH_1, a_tryK2_0, a_tryK2_1, a_hdS_0, a_hdS_1, a_compX, a_compKX_0, a_fld, a_meth, a_prop, a_propK, a_propE, a_make, a_makeK, a_makeE, a_putF, a_pfK, a_lkv, a_lkvK, a_dct1, a_dct1K, a_dct1K2, a_dct2, a_key, a_putK, a_pk0, a_pk1, a_pk2, a_rg2, a_rg2K, a_rg2K2, a_oL, isi_int, t1, s5, Bool.not_true, (is_non lo).2, (is_non hi).1, b1, b2]
  rfl
theorem stands_ok (v : Nat) (h1 : 1 ≤ v) (h2 : v ≤ 6) : fn_check_stands [.int (v : Int)] = .ret (.int (v : Int)) [] := by
  rw [o_check_stands]
  have e := whole_ev (v : Int) 1 6 (by omega) (by omega)
  simp -implicitDefEqProofs only [F_check_stands, a_seq, a_expr, a_ret, a_retO, a_set, a_setO, a_if, a_unp, a_for, a_nil, a_retN, a_then_0, a_then_1, a_then_2, a_then_3, a_sK_0, a_sK_1, a_ifS_0, a_ifS_1, a_ifS_2, a_k_0, a_k_1, a_k_2, a_k_3, a_k_4, a_k_5, a_k_6, a_setV, a_setOd, a_setVK_0, a_setVK_1, a_setVK_2, a_setVK_3, a_setVK_4, a_setVK_5, a_c, a_var, a_varK_0, a_varK_1, a_bin, a_binK_0, a_binK_1, a_binK_2, a_binK_3, a_oE_0, a_oE_1, a_un, a_unK_0, a_unK_1, a_unK_2, a_unK_3, a_test, a_tru, a_not, a_asB_0, a_asB_1, a_asB_2, a_asB_3, a_lst_0, a_lst_1, a_and, a_or, a_andK_0, a_andK_1, a_andK_2, a_andK_3, a_andK_4, a_andK_5, a_dIf, a_tand, a_tor, a_tnot, a_ifK_0, a_ifK_1, a_ifK_2, a_ifK_3, a_ifK_4, a_cons, a_consK_0, a_consK_1, a_consK_2, a_consK_3, a_consK_4, a_refA, a_refK_0, a_refK_1, a_refK_2, a_cb, a_tup, a_dLst, a_vals0, a_vals1, a_vals2, a_vals3, a_vals4, call_eq, callO_eq, a_call1, a_call2, a_call3, a_call4, a_rf0, a_rf1, a_rf2, a_rfK_0, a_rfK_1, a_rfK_2, a_end0_0, a_end0_1, a_end0_2, a_end0_3, a_end1, a_put1_0, a_put1_1, a_look, a_lkK_0, a_lkK_1, a_lkK_2, a_ixV, a_ixK_0, a_ixK_1, a_ixK_2, a_lenV, a_truV, a_len_0, a_len_1, a_len_2, a_len_3, a_len_4, a_it, a_rg1, a_rgL, a_en, a_zp, a_itK_0, a_itK_1, a_itK_2, a_itE_0, a_itE_1, a_comp, a_compK_0, a_compK_1, a_isi, a_gI_0, a_gI_1, a_gI_2, List.getElem?_cons_zero, List.getElem?_cons_succ, List.set_cons_zero, List.set_cons_succ, Option.bind_some, Option.map_some, f_nil, f_cons, f_some, f_nx, f_ct, f_bk, f_rt, f_ex, a_putV, a_pv0, a_pv1, a_put, a_sp0, a_sp1, a_sp2, a_sp3, a_sp4, a_app, a_sa1, a_sa2, a_aug, a_au1, a_au2, a_au3, gEq_int, gNe_int, ct_rf, ct_own, if_true, if_false, Bool.false_eq_true, a_try, a_tryK_0, a_tryK_1, a_tryK_2, a_tryH_0, a_tryH_1, a_tryK2_0, a_tryK2_1, a_hdS_0, a_hdS_1, a_compX, a_compKX_0, a_fld, a_meth, a_prop, a_propK, a_propE, a_make, a_makeK, a_makeE, a_putF, a_pfK, a_lkv, a_lkvK, a_dct1, a_dct1K, a_dct1K2, a_dct2, a_key, a_putK, a_pk0, a_pk1, a_pk2, a_rg2, a_rg2K, a_rg2K2, a_oL, e, Bool.not_true]
  rfl
theorem all_ok (v : Nat) (h1 : 1 ≤ v) (h2 : v ≤ 6) : fn_all_stands [.int (v : Int)] = .ret (.int (((2 ^ v : Nat) : Int) - 1)) [] := by
  rw [o_all_stands]
  have e := stands_ok v h1 h2
  have cp : cPow 1 (v : Int) = true := cpw (by omega)
  simp -implicitDefEqProofs only [F_all_stands, a_seq, a_expr, a_ret, a_retO, a_set, a_setO, a_if, a_unp, a_for, a_nil, a_retN, a_then_0, a_then_1, a_then_2, a_then_3, a_sK_0, a_sK_1, a_ifS_0, a_ifS_1, a_ifS_2, a_k_0, a_k_1, a_k_2, a_k_3, a_k_4, a_k_5, a_k_6, a_setV, a_setOd, a_setVK_0, a_setVK_1, a_setVK_2, a_setVK_3, a_setVK_4, a_setVK_5, a_c, a_var, a_varK_0, a_varK_1, a_bin, a_binK_0, a_binK_1, a_binK_2, a_binK_3, a_oE_0, a_oE_1, a_un, a_unK_0, a_unK_1, a_unK_2, a_unK_3, a_test, a_tru, a_not, a_asB_0, a_asB_1, a_asB_2, a_asB_3, a_lst_0, a_lst_1, a_and, a_or, a_andK_0, a_andK_1, a_andK_2, a_andK_3, a_andK_4, a_andK_5, a_dIf, a_tand, a_tor, a_tnot, a_ifK_0, a_ifK_1, a_ifK_2, a_ifK_3, a_ifK_4, a_cons, a_consK_0, a_consK_1, a_consK_2, a_consK_3, a_consK_4, a_refA, a_refK_0, a_refK_1, a_refK_2, a_cb, a_tup, a_dLst, a_vals0, a_vals1, a_vals2, a_vals3, a_vals4, call_eq, callO_eq, a_call1, a_call2, a_call3, a_call4, a_rf0, a_rf1, a_rf2, a_rfK_0, a_rfK_1, a_rfK_2, a_end0_0, a_end0_1, a_end0_2, a_end0_3, a_end1, a_put1_0, a_put1_1, a_look, a_lkK_0, a_lkK_1, a_lkK_2, a_ixV, a_ixK_0, a_ixK_1, a_ixK_2, a_lenV, a_truV, a_len_0, a_len_1, a_len_2, a_len_3, a_len_4, a_it, a_rg1, a_rgL, a_en, a_zp, a_itK_0, a_itK_1, a_itK_2, a_itE_0, a_itE_1, a_comp, a_compK_0, a_compK_1, a_isi, a_gI_0, a_gI_1, a_gI_2, List.getElem?_cons_zero, List.getElem?_cons_succ, List.set_cons_zero, List.set_cons_succ, Option.bind_some, Option.map_some, f_nil, f_cons, f_some, f_nx, f_ct, f_bk, f_rt, f_ex, a_putV, a_pv0, a_pv1, a_put, a_sp0, a_sp1, a_sp2, a_sp3, a_sp4, a_app, a_sa1, a_sa2, a_aug, a_au1, a_au2, a_au3, gEq_int, gNe_int, ct_rf, ct_own, if_true, if_false, Bool.false_eq_true, a_try, a_tryK_0, a_tryK_1, a_tryK_2, a_tryH_0, a_tryH_1, a_tryK2_0, a_tryK2_1, a_hdS_0, a_hdS_1, a_compX, a_compKX_0, a_fld, a_meth, a_prop, a_propK, a_propE, a_make, a_makeK, a_makeE, a_putF, a_pfK, a_lkv, a_lkvK, a_dct1, a_dct1K, a_dct1K2, a_dct2, a_key, a_putK, a_pk0, a_pk1, a_pk2, a_rg2, a_rg2K, a_rg2K2, a_oL, e, cp, shl1]
  rfl
theorem lot_ok (v k : Nat) (h1 : 1 ≤ v) (h2 : v ≤ 6) (hk : k < 2 ^ v) : fn_check_lot [.int (v : Int), .int (k : Int)] = .ret (.int (k : Int)) [] := by
  rw [o_check_lot]
  have e := all_ok v h1 h2
  have e2 := whole_ev (k : Int) 0 (((2 ^ v : Nat) : Int) - 1) (by omega) (by omega)
  simp -implicitDefEqProofs only [F_check_lot, a_seq, a_expr, a_ret, a_retO, a_set, a_setO, a_if, a_unp, a_for, a_nil, a_retN, a_then_0, a_then_1, a_then_2, a_then_3, a_sK_0, a_sK_1, a_ifS_0, a_ifS_1, a_ifS_2, a_k_0, a_k_1, a_k_2, a_k_3, a_k_4, a_k_5, a_k_6, a_setV, a_setOd, a_setVK_0, a_setVK_1, a_setVK_2, a_setVK_3, a_setVK_4, a_setVK_5, a_c, a_var, a_varK_0, a_varK_1, a_bin, a_binK_0, a_binK_1, a_binK_2, a_binK_3, a_oE_0, a_oE_1, a_un, a_unK_0, a_unK_1, a_unK_2, a_unK_3, a_test, a_tru, a_not, a_asB_0, a_asB_1, a_asB_2, a_asB_3, a_lst_0, a_lst_1, a_and, a_or, a_andK_0, a_andK_1, a_andK_2, a_andK_3, a_andK_4, a_andK_5, a_dIf, a_tand, a_tor, a_tnot, a_ifK_0, a_ifK_1, a_ifK_2, a_ifK_3, a_ifK_4, a_cons, a_consK_0, a_consK_1, a_consK_2, a_consK_3, a_consK_4, a_refA, a_refK_0, a_refK_1, a_refK_2, a_cb, a_tup, a_dLst, a_vals0, a_vals1, a_vals2, a_vals3, a_vals4, call_eq, callO_eq, a_call1, a_call2, a_call3, a_call4, a_rf0, a_rf1, a_rf2, a_rfK_0, a_rfK_1, a_rfK_2, a_end0_0, a_end0_1, a_end0_2, a_end0_3, a_end1, a_put1_0, a_put1_1, a_look, a_lkK_0, a_lkK_1, a_lkK_2, a_ixV, a_ixK_0, a_ixK_1, a_ixK_2, a_lenV, a_truV, a_len_0, a_len_1, a_len_2, a_len_3, a_len_4, a_it, a_rg1, a_rgL, a_en, a_zp, a_itK_0, a_itK_1, a_itK_2, a_itE_0, a_itE_1, a_comp, a_compK_0, a_compK_1, a_isi, a_gI_0, a_gI_1, a_gI_2, List.getElem?_cons_zero, List.getElem?_cons_succ, List.set_cons_zero, List.set_cons_succ, Option.bind_some, Option.map_some, f_nil, f_cons, f_some, f_nx, f_ct, f_bk, f_rt, f_ex, a_putV, a_pv0, a_pv1, a_put, a_sp0, a_sp1, a_sp2, a_sp3, a_sp4, a_app, a_sa1, a_sa2, a_aug, a_au1, a_au2, a_au3, gEq_int, gNe_int, ct_rf, ct_own, if_true, if_false, Bool.false_eq_true, a_try, a_tryK_0, a_tryK_1, a_tryK_2, a_tryH_0, a_tryH_1, a_tryK2_0, a_tryK2_1, a_hdS_0, a_hdS_1, a_compX, a_compKX_0, a_fld, a_meth, a_prop, a_propK, a_propE, a_make, a_makeK, a_makeE, a_putF, a_pfK, a_lkv, a_lkvK, a_dct1, a_dct1K, a_dct1K2, a_dct2, a_key, a_putK, a_pk0, a_pk1, a_pk2, a_rg2, a_rg2K, a_rg2K2, a_oL, e, e2, Bool.not_true]
  rfl
theorem seq_ev (q : Bool) (ds : List D) : fn_is_sequence [sq q ds] = .ret (.bl true) [] := by
  rw [o_is_sequence]
  simp -implicitDefEqProofs only [F_is_sequence, a_seq, a_expr, a_ret, a_retO, a_set, a_setO, a_if, a_unp, a_for, a_nil, a_retN, a_then_0, a_then_1, a_then_2, a_then_3, a_sK_0, a_sK_1, a_ifS_0, a_ifS_1, a_ifS_2, a_k_0, a_k_1, a_k_2, a_k_3, a_k_4, a_k_5, a_k_6, a_setV, a_setOd, a_setVK_0, a_setVK_1, a_setVK_2, a_setVK_3, a_setVK_4, a_setVK_5, a_c, a_var, a_varK_0, a_varK_1, a_bin, a_binK_0, a_binK_1, a_binK_2, a_binK_3, a_oE_0, a_oE_1, a_un, a_unK_0, a_unK_1, a_unK_2, a_unK_3, a_test, a_tru, a_not, a_asB_0, a_asB_1, a_asB_2, a_asB_3, a_lst_0, a_lst_1, a_and, a_or, a_andK_0, a_andK_1, a_andK_2, a_andK_3, a_andK_4, a_andK_5, a_dIf, a_tand, a_tor, a_tnot, a_ifK_0, a_ifK_1, a_ifK_2, a_ifK_3, a_ifK_4, a_cons, a_consK_0, a_consK_1, a_consK_2, a_consK_3, a_consK_4, a_refA, a_refK_0, a_refK_1, a_refK_2, a_cb, a_tup, a_dLst, a_vals0, a_vals1, a_vals2, a_vals3, a_vals4, call_eq, callO_eq, a_call1, a_call2, a_call3, a_call4, a_rf0, a_rf1, a_rf2, a_rfK_0, a_rfK_1, a_rfK_2, a_end0_0, a_end0_1, a_end0_2, a_end0_3, a_end1, a_put1_0, a_put1_1, a_look, a_lkK_0, a_lkK_1, a_lkK_2, a_ixV, a_ixK_0, a_ixK_1, a_ixK_2, a_lenV, a_truV, a_len_0, a_len_1, a_len_2, a_len_3, a_len_4, a_it, a_rg1, a_rgL, a_en, a_zp, a_itK_0, a_itK_1, a_itK_2, a_itE_0, a_itE_1, a_comp, a_compK_0, a_compK_1, a_isi, a_gI_0, a_gI_1, a_gI_2, List.getElem?_cons_zero, List.getElem?_cons_succ, List.set_cons_zero, List.set_cons_succ, Option.bind_some, Option.map_some, f_nil, f_cons, f_some, f_nx, f_ct, f_bk, f_rt, f_ex, a_putV, a_pv0, a_pv1, a_put, a_sp0, a_sp1, a_sp2, a_sp3, a_sp4, a_app, a_sa1, a_sa2, a_aug, a_au1, a_au2, a_au3, gEq_int, gNe_int, ct_rf, ct_own, if_true, if_false, Bool.false_eq_true, a_try, a_tryK_0, a_tryK_1, a_tryK_2, a_tryH_0, a_tryH_1, a_tryK2_0, a_tryK2_1, a_hdS_0, a_hdS_1, a_compX, a_compKX_0, a_fld, a_meth, a_prop, a_propK, a_propE, a_make, a_makeK, a_makeE, a_putF, a_pfK, a_lkv, a_lkvK, a_dct1, a_dct1K, a_dct1K2, a_dct2, a_key, a_putK, a_pk0, a_pk1, a_pk2, a_rg2, a_rg2K, a_rg2K2, a_oL, isi_sq]
  rfl
theorem crow_loop (v : Nat) (s : D) : ∀ (r : List Nat) (i : Nat) (s3 s4 : Sl), (∀ a ∈ r, a < 2 ^ v) → Nr s3 → Nr s4 → ∃ s3' s4',
    forL (dUnp [3, 4]) B_check_row_0 (enumD i (rowD r)) [.val (.int (v : Int)), .val s, .val (.int (((2 ^ v : Nat) : Int) - 1)), s3, s4] = .nx [.val (.int (v : Int)), .val s, .val (.int (((2 ^ v : Nat) : Int) - 1)), s3', s4']
  | [], i, s3, s4, _, h3, h4 => ⟨s3, s4, rfl⟩
  | a :: r, i, s3, s4, hr, h3, h4 => by
    obtain ⟨s3', s4', e⟩ := crow_loop v s r (i + 1) (.val (.int (i : Int))) (.val (.int (a : Int))) (fun b hb => hr b (List.mem_cons_of_mem _ hb)) (nr_val _) (nr_val _)
    refine ⟨s3', s4', ?_⟩
    have ha := hr a List.mem_cons_self
    have e2 := whole_ev (a : Int) 0 (((2 ^ v : Nat) : Int) - 1) (by omega) (by omega)
    show forL _ _ (.tup [.int (i : Int), .int (a : Int)] :: enumD (i + 1) (rowD r)) _ = _
    rw [← e]
    simp -implicitDefEqProofs only [a_seq, a_expr, a_ret, a_retO, a_set, a_setO, a_if, a_unp, a_for, a_nil, a_retN, a_then_0, a_then_1, a_then_2, a_then_3, a_sK_0, a_sK_1, a_ifS_0, a_ifS_1, a_ifS_2, a_k_0, a_k_1, a_k_2, a_k_3, a_k_4, a_k_5, a_k_6, a_setV, a_setOd, a_setVK_0, a_setVK_1, a_setVK_2, a_setVK_3, a_setVK_4, a_setVK_5, a_c, a_var, a_varK_0, a_varK_1, a_bin, a_binK_0, a_binK_1, a_binK_2, a_binK_3, a_oE_0, a_oE_1, a_un, a_unK_0, a_unK_1, a_unK_2, a_unK_3, a_test, a_tru, a_not, a_asB_0, a_asB_1, a_asB_2, a_asB_3, a_lst_0, a_lst_1, a_and, a_or, a_andK_0, a_andK_1, a_andK_2, a_andK_3, a_andK_4, a_andK_5, a_dIf, a_tand, a_tor, a_tnot, a_ifK_0, a_ifK_1, a_ifK_2, a_ifK_3, a_ifK_4, a_cons, a_consK_0, a_consK_1, a_consK_2, a_consK_3, a_consK_4, a_refA, a_refK_0, a_refK_1, a_refK_2, a_cb, a_tup, a_dLst, a_vals0, a_vals1, a_vals2, a_vals3, a_vals4, call_eq, callO_eq, a_call1, a_call2, a_call3, a_call4, a_rf0, a_rf1, a_rf2, a_rfK_0, a_rfK_1, a_rfK_2, a_end0_0, a_end0_1, a_end0_2, a_end0_3, a_end1, a_put1_0, a_put1_1, a_look, a_lkK_0, a_lkK_1, a_lkK_2, a_ixV, a_ixK_0, a_ixK_1, a_ixK_2, a_lenV, a_truV, a_len_0, a_len_1, a_len_2, a_len_3, a_len_4, a_it, a_rg1, a_rgL, a_en, a_zp, a_itK_0, a_itK_1, a_itK_2, a_itE_0, a_itE_1, a_comp, a_compK_0, a_compK_1, a_isi, a_gI_0, a_gI_1, a_gI_2, List.getElem?_cons_zero, List.getElem?_cons_succ, List.set_cons_zero, List.set_cons_succ, Option.bind_some, Option.map_some, f_nil, f_cons, f_some, f_nx, f_ct, f_bk, f_rt, f_ex, a_putV, a_pv0, a_pv1, a_put, a_sp0, a_sp1, a_sp2, a_sp3, a_sp4, a_app, a_sa1, a_sa2, a_aug, a_au1, a_au2, a_au3, gEq_int, gNe_int, ct_rf, ct_own, if_true, if_false, Bool.false_eq_true, a_try, a_tryK_0, a_tryK_1, a_tryK_2, a_tryH_0, a_tryH_1, a_tryK2_0, a_tryK2_1, a_hdS_0, a_hdS_1, a_compX, a_compKX_0, a_fld, a_meth, a_prop, a_propK, a_propE, a_make, a_makeK, a_makeE, a_putF, a_pfK, a_lkv, a_lkvK, a_dct1, a_dct1K, a_dct1K2, a_dct2, a_key, a_putK, a_pk0, a_pk1, a_pk2, a_rg2, a_rg2K, a_rg2K2, a_oL, unp2, set_nr h3, set_nr h4, B_check_row_0, e2, Bool.not_true]
theorem crow_ev (q : Bool) (v : Nat) (r : List Nat) (h1 : 1 ≤ v) (h2 : v ≤ 6) (g : Good v r) : fn_check_row [.int (v : Int), sq q (rowD r)] = .ret (.tup (rowD r)) [] := by
  rw [o_check_row]
  obtain ⟨s3', s4', e⟩ := crow_loop v (sq q (rowD r)) r 0 .un .un g.2 nr_un nr_un
  have e0 := all_ok v h1 h2
  have e1 := seq_ev q (rowD r)
  have l := sq_len q (rowD r)
  rw [row_len, g.1] at l
  simp -implicitDefEqProofs only [F_check_row, a_seq, a_expr, a_ret, a_retO, a_set, a_setO, a_if, a_unp, a_for, a_nil, a_retN, a_then_0, a_then_1, a_then_2, a_then_3, a_sK_0, a_sK_1, a_ifS_0, a_ifS_1, a_ifS_2, a_k_0, a_k_1, a_k_2, a_k_3, a_k_4, a_k_5, a_k_6, a_setV, a_setOd, a_setVK_0, a_setVK_1, a_setVK_2, a_setVK_3, a_setVK_4, a_setVK_5, a_c, a_var, a_varK_0, a_varK_1, a_bin, a_binK_0, a_binK_1, a_binK_2, a_binK_3, a_oE_0, a_oE_1, a_un, a_unK_0, a_unK_1, a_unK_2, a_unK_3, a_test, a_tru, a_not, a_asB_0, a_asB_1, a_asB_2, a_asB_3, a_lst_0, a_lst_1, a_and, a_or, a_andK_0, a_andK_1, a_andK_2, a_andK_3, a_andK_4, a_andK_5, a_dIf, a_tand, a_tor, a_tnot, a_ifK_0, a_ifK_1, a_ifK_2, a_ifK_3, a_ifK_4, a_cons, a_consK_0, a_consK_1, a_consK_2, a_consK_3, a_consK_4, a_refA, a_refK_0, a_refK_1, a_refK_2, a_cb, a_tup, a_dLst, a_vals0, a_vals1, a_vals2, a_vals3, a_vals4, call_eq, callO_eq, a_call1, a_call2, a_call3, a_call4, a_rf0, a_rf1, a_rf2, a_rfK_0, a_rfK_1, a_rfK_2, a_end0_0, a_end0_1, a_end0_2, a_end0_3, a_end1, a_put1_0, a_put1_1, a_look, a_lkK_0, a_lkK_1, a_lkK_2, a_ixV, a_ixK_0, a_ixK_1, a_ixK_2, a_lenV, a_truV, a_len_0, a_len_1, a_len_2, a_len_3, a_len_4, a_it, a_rg1, a_rgL, a_en, a_zp, a_itK_0, a_itK_1, a_itK_2, a_itE_0, a_itE_1, a_comp, a_compK_0, a_compK_1, a_isi, a_gI_0, a_gI_1, a_gI_2, List.getElem?_cons_zero, List.getElem?_cons_succ, List.set_cons_zero, List.set_cons_succ, Option.bind_some, Option.map_some, f_nil, f_cons, f_some, f_nx, f_ct, f_bk, f_rt, f_ex, a_putV, a_pv0, a_pv1, a_put, a_sp0, a_sp1, a_sp2, a_sp3, a_sp4, a_app, a_sa1, a_sa2, a_aug, a_au1, a_au2, a_au3, gEq_int, gNe_int, ct_rf, ct_own, if_true, if_false, Bool.false_eq_true, a_try, a_tryK_0, a_tryK_1, a_tryK_2, a_tryH_0, a_tryH_1, a_tryK2_0, a_tryK2_1, a_hdS_0, a_hdS_1, a_compX, a_compKX_0, a_fld, a_meth, a_prop, a_propK, a_propE, a_make, a_makeK, a_makeE, a_putF, a_pfK, a_lkv, a_lkvK, a_dct1, a_dct1K, a_dct1K2, a_dct2, a_key, a_putK, a_pk0, a_pk1, a_pk2, a_rg2, a_rg2K, a_rg2K2, a_oL, e0, e1, l, beq_self_eq_true, Bool.not_true, sq_en, e, sq_tup]
  rfl
end LW

set_option maxRecDepth 100000
set_option maxHeartbeats 2000000
namespace LW
open PySem PySem.Spec PyProof.Rows L2 DL
theorem every_ev (v : Nat) (h : v ≤ 6) : fn__law_every [.int (v : Int)] = .ret (.int ((2 ^ v - 1 : Nat) : Int)) [] := by
  rw [o__law_every]
  have cp : cPow 1 (v : Int) = true := cpw (by omega)
  have hp0 : 0 < 2 ^ v := Nat.pow_pos (by decide)
  have e : ((2 ^ v : Nat) : Int) - 1 = ((2 ^ v - 1 : Nat) : Int) := by omega
  simp -implicitDefEqProofs only [F__law_every, a_seq, a_expr, a_ret, a_retO, a_set, a_setO, a_if, a_unp, a_for, a_nil, a_retN, a_then_0, a_then_1, a_then_2, a_then_3, a_sK_0, a_sK_1, a_ifS_0, a_ifS_1, a_ifS_2, a_k_0, a_k_1, a_k_2, a_k_3, a_k_4, a_k_5, a_k_6, a_setV, a_setOd, a_setVK_0, a_setVK_1, a_setVK_2, a_setVK_3, a_setVK_4, a_setVK_5, a_c, a_var, a_varK_0, a_varK_1, a_bin, a_binK_0, a_binK_1, a_binK_2, a_binK_3, a_oE_0, a_oE_1, a_un, a_unK_0, a_unK_1, a_unK_2, a_unK_3, a_test, a_tru, a_not, a_asB_0, a_asB_1, a_asB_2, a_asB_3, a_lst_0, a_lst_1, a_and, a_or, a_andK_0, a_andK_1, a_andK_2, a_andK_3, a_andK_4, a_andK_5, a_dIf, a_tand, a_tor, a_tnot, a_ifK_0, a_ifK_1, a_ifK_2, a_ifK_3, a_ifK_4, a_cons, a_consK_0, a_consK_1, a_consK_2, a_consK_3, a_consK_4, a_refA, a_refK_0, a_refK_1, a_refK_2, a_cb, a_tup, a_dLst, a_vals0, a_vals1, a_vals2, a_vals3, a_vals4, call_eq, callO_eq, a_call1, a_call2, a_call3, a_call4, a_rf0, a_rf1, a_rf2, a_rfK_0, a_rfK_1, a_rfK_2, a_end0_0, a_end0_1, a_end0_2, a_end0_3, a_end1, a_put1_0, a_put1_1, a_look, a_lkK_0, a_lkK_1, a_lkK_2, a_ixV, a_ixK_0, a_ixK_1, a_ixK_2, a_lenV, a_truV, a_len_0, a_len_1, a_len_2, a_len_3, a_len_4, a_it, a_rg1, a_rgL, a_en, a_zp, a_itK_0, a_itK_1, a_itK_2, a_itE_0, a_itE_1, a_comp, a_compK_0, a_compK_1, a_isi, a_gI_0, a_gI_1, a_gI_2, List.getElem?_cons_zero, List.getElem?_cons_succ, List.set_cons_zero, List.set_cons_succ, Option.bind_some, Option.map_some, f_nil, f_cons, f_some, f_nx, f_ct, f_bk, f_rt, f_ex, a_putV, a_pv0, a_pv1, a_put, a_sp0, a_sp1, a_sp2, a_sp3, a_sp4, a_app, a_sa1, a_sa2, a_aug, a_au1, a_au2, a_au3, gEq_int, gNe_int, ct_rf, ct_own, if_true, if_false, Bool.false_eq_true, a_try, a_tryK_0, a_tryK_1, a_tryK_2, a_tryH_0, a_tryH_1, a_tryK2_0, a_tryK2_1, a_hdS_0, a_hdS_1, a_compX, a_compKX_0, a_fld, a_meth, a_prop, a_propK, a_propE, a_make, a_makeK, a_makeE, a_putF, a_pfK, a_lkv, a_lkvK, a_dct1, a_dct1K, a_dct1K2, a_dct2, a_key, a_putK, a_pk0, a_pk1, a_pk2, a_rg2, a_rg2K, a_rg2K2, a_oL, cp, shl1, e]
  rfl
theorem within_ev (a b : Nat) : fn__law_within [.int (a : Int), .int (b : Int)] = .ret (.bl (decide (a &&& b = a))) [] := by
  rw [o__law_within]
  simp -implicitDefEqProofs only [F__law_within, a_seq, a_expr, a_ret, a_retO, a_set, a_setO, a_if, a_unp, a_for, a_nil, a_retN, a_then_0, a_then_1, a_then_2, a_then_3, a_sK_0, a_sK_1, a_ifS_0, a_ifS_1, a_ifS_2, a_k_0, a_k_1, a_k_2, a_k_3, a_k_4, a_k_5, a_k_6, a_setV, a_setOd, a_setVK_0, a_setVK_1, a_setVK_2, a_setVK_3, a_setVK_4, a_setVK_5, a_c, a_var, a_varK_0, a_varK_1, a_bin, a_binK_0, a_binK_1, a_binK_2, a_binK_3, a_oE_0, a_oE_1, a_un, a_unK_0, a_unK_1, a_unK_2, a_unK_3, a_test, a_tru, a_not, a_asB_0, a_asB_1, a_asB_2, a_asB_3, a_lst_0, a_lst_1, a_and, a_or, a_andK_0, a_andK_1, a_andK_2, a_andK_3, a_andK_4, a_andK_5, a_dIf, a_tand, a_tor, a_tnot, a_ifK_0, a_ifK_1, a_ifK_2, a_ifK_3, a_ifK_4, a_cons, a_consK_0, a_consK_1, a_consK_2, a_consK_3, a_consK_4, a_refA, a_refK_0, a_refK_1, a_refK_2, a_cb, a_tup, a_dLst, a_vals0, a_vals1, a_vals2, a_vals3, a_vals4, call_eq, callO_eq, a_call1, a_call2, a_call3, a_call4, a_rf0, a_rf1, a_rf2, a_rfK_0, a_rfK_1, a_rfK_2, a_end0_0, a_end0_1, a_end0_2, a_end0_3, a_end1, a_put1_0, a_put1_1, a_look, a_lkK_0, a_lkK_1, a_lkK_2, a_ixV, a_ixK_0, a_ixK_1, a_ixK_2, a_lenV, a_truV, a_len_0, a_len_1, a_len_2, a_len_3, a_len_4, a_it, a_rg1, a_rgL, a_en, a_zp, a_itK_0, a_itK_1, a_itK_2, a_itE_0, a_itE_1, a_comp, a_compK_0, a_compK_1, a_isi, a_gI_0, a_gI_1, a_gI_2, List.getElem?_cons_zero, List.getElem?_cons_succ, List.set_cons_zero, List.set_cons_succ, Option.bind_some, Option.map_some, f_nil, f_cons, f_some, f_nx, f_ct, f_bk, f_rt, f_ex, a_putV, a_pv0, a_pv1, a_put, a_sp0, a_sp1, a_sp2, a_sp3, a_sp4, a_app, a_sa1, a_sa2, a_aug, a_au1, a_au2, a_au3, gEq_int, gNe_int, ct_rf, ct_own, if_true, if_false, Bool.false_eq_true, a_try, a_tryK_0, a_tryK_1, a_tryK_2, a_tryH_0, a_tryH_1, a_tryK2_0, a_tryK2_1, a_hdS_0, a_hdS_1, a_compX, a_compKX_0, a_fld, a_meth, a_prop, a_propK, a_propE, a_make, a_makeK, a_makeE, a_putF, a_pfK, a_lkv, a_lkvK, a_dct1, a_dct1K, a_dct1K2, a_dct2, a_key, a_putK, a_pk0, a_pk1, a_pk2, a_rg2, a_rg2K, a_rg2K2, a_oL, wib2]
  rfl
end LW

set_option maxRecDepth 100000
set_option maxHeartbeats 2000000
namespace LW
open PySem PySem.Spec PyProof.Rows L2 DL
/-! ### the law's glasses: met, members, rounded, refined -/
def metD (ks : List Nat) : D := .dct (ks.map fun k => (Sum.inl ((k : Nat) : Int) : Key)) (ks.map fun _ => D.bl true)
theorem key_nats (ks : List Nat) : (ks.map fun k => (Sum.inl ((k : Nat) : Int) : Key)).map keyD = rowD ks := by
  rw [List.map_map]; rfl
theorem zw_true (k : Key) : ∀ (ks : List Key) (n : Nat), ks.length = n → List.zipWith (fun k' (x : D) => if k' = k then D.bl true else x) ks (List.replicate n (D.bl true)) = List.replicate n (D.bl true)
  | [], n, h => by subst h; rfl
  | a :: r, n, h => by
    cases n with
    | zero => cases h
    | succ n =>
      have ih := zw_true k r n (Nat.succ.inj h)
      show (if a = k then D.bl true else D.bl true) :: List.zipWith _ r (List.replicate n (D.bl true)) = D.bl true :: List.replicate n (D.bl true)
      rw [ih]
      split <;> rfl
theorem met_put (ks : List Nat) (k : Nat) : dctPut (ks.map fun k => (Sum.inl ((k : Nat) : Int) : Key)) (ks.map fun _ => D.bl true) (.inl ((k : Nat) : Int)) (.bl true) = metD (if k ∈ ks then ks else ks ++ [k]) := by
  have e : ((ks.map fun k => (Sum.inl ((k : Nat) : Int) : Key)).any fun k' => decide (k' = .inl ((k : Nat) : Int))) = decide (k ∈ ks) := by
    rw [Bool.eq_iff_iff, List.any_eq_true]
    simp only [List.mem_map, decide_eq_true_eq]
    constructor
    · rintro ⟨_, ⟨j, hj, rfl⟩, e⟩
      have : ((j : Nat) : Int) = k := Sum.inl.inj e
      have : j = k := by omega
      exact this ▸ hj
    · exact fun h => ⟨_, ⟨k, h, rfl⟩, rfl⟩
  unfold dctPut
  rw [e]
  by_cases h : k ∈ ks
  · rw [if_pos (decide_eq_true h), if_pos h]
    unfold metD
    congr 1
    have r : (ks.map fun _ => D.bl true) = List.replicate ks.length (D.bl true) := List.map_const' ..
    rw [r]
    exact zw_true _ _ _ (List.length_map _)
  · rw [if_neg (by simpa using h), if_neg h]
    unfold metD
    rw [List.map_append, List.map_append]; rfl
theorem met_in (v ls : D) (l : Nat) : ∀ (s acc : List Nat) (s4 : Sl), acc.length + s.length ≤ 4096 → Nr s4 → ∃ s4', Nr s4' ∧
    forL (setV 4) B__law_met_0 (rowD s) [.val v, .val ls, .own (metD acc), .val (.int (l : Int)), s4] = .nx [.val v, .val ls, .own (metD (meetIn l s acc)), .val (.int (l : Int)), s4']
  | [], acc, s4, _, h4 => ⟨s4, h4, rfl⟩
  | k :: r, acc, s4, hl, h4 => by
    have hl2 : acc.length + (r.length + 1) ≤ 4096 := hl
    obtain ⟨s4', h4', e⟩ := met_in v ls l r (if (k &&& l) ∈ acc then acc else acc ++ [k &&& l]) (.val (.int (k : Int))) (by
      split
      · omega
      · rw [List.length_append]; show acc.length + 1 + r.length ≤ _; omega) (nr_val _)
    refine ⟨s4', h4', ?_⟩
    rw [meetIn, ← e]
    show forL _ _ (.int (k : Int) :: rowD r) _ = _
    have lz : (acc.map fun k => (Sum.inl ((k : Nat) : Int) : Key)).length < sizeLine := by rw [List.length_map, sizeLine_eq]; omega
    have pk : ∀ δ, pkK3 2 (.bl true) δ (some (metD acc)) (some (.inl ((k &&& l : Nat) : Int))) = oNx (putV 2 (metD (if (k &&& l) ∈ acc then acc else acc ++ [k &&& l])) δ) := fun δ => by
      rw [← met_put]; exact a_pk3 _ _ _ _ _ _ lz
    simp -implicitDefEqProofs only [a_seq, a_expr, a_ret, a_retO, a_set, a_setO, a_if, a_unp, a_for, a_nil, a_retN, a_then_0, a_then_1, a_then_2, a_then_3, a_sK_0, a_sK_1, a_ifS_0, a_ifS_1, a_ifS_2, a_k_0, a_k_1, a_k_2, a_k_3, a_k_4, a_k_5, a_k_6, a_setV, a_setOd, a_setVK_0, a_setVK_1, a_setVK_2, a_setVK_3, a_setVK_4, a_setVK_5, a_c, a_var, a_varK_0, a_varK_1, a_bin, a_binK_0, a_binK_1, a_binK_2, a_binK_3, a_oE_0, a_oE_1, a_un, a_unK_0, a_unK_1, a_unK_2, a_unK_3, a_test, a_tru, a_not, a_asB_0, a_asB_1, a_asB_2, a_asB_3, a_lst_0, a_lst_1, a_and, a_or, a_andK_0, a_andK_1, a_andK_2, a_andK_3, a_andK_4, a_andK_5, a_dIf, a_tand, a_tor, a_tnot, a_ifK_0, a_ifK_1, a_ifK_2, a_ifK_3, a_ifK_4, a_cons, a_consK_0, a_consK_1, a_consK_2, a_consK_3, a_consK_4, a_refA, a_refK_0, a_refK_1, a_refK_2, a_cb, a_tup, a_dLst, a_vals0, a_vals1, a_vals2, a_vals3, a_vals4, call_eq, callO_eq, a_call1, a_call2, a_call3, a_call4, a_rf0, a_rf1, a_rf2, a_rfK_0, a_rfK_1, a_rfK_2, a_end0_0, a_end0_1, a_end0_2, a_end0_3, a_end1, a_put1_0, a_put1_1, a_look, a_lkK_0, a_lkK_1, a_lkK_2, a_ixV, a_ixK_0, a_ixK_1, a_ixK_2, a_lenV, a_truV, a_len_0, a_len_1, a_len_2, a_len_3, a_len_4, a_it, a_rg1, a_rgL, a_en, a_zp, a_itK_0, a_itK_1, a_itK_2, a_itE_0, a_itE_1, a_comp, a_compK_0, a_compK_1, a_isi, a_gI_0, a_gI_1, a_gI_2, List.getElem?_cons_zero, List.getElem?_cons_succ, List.set_cons_zero, List.set_cons_succ, Option.bind_some, Option.map_some, f_nil, f_cons, f_some, f_nx, f_ct, f_bk, f_rt, f_ex, a_putV, a_pv0, a_pv1, a_put, a_sp0, a_sp1, a_sp2, a_sp3, a_sp4, a_app, a_sa1, a_sa2, a_aug, a_au1, a_au2, a_au3, gEq_int, gNe_int, ct_rf, ct_own, if_true, if_false, Bool.false_eq_true, a_try, a_tryK_0, a_tryK_1, a_tryK_2, a_tryH_0, a_tryH_1, a_tryK2_0, a_tryK2_1, a_hdS_0, a_hdS_1, a_compX, a_compKX_0, a_fld, a_meth, a_prop, a_propK, a_propE, a_make, a_makeK, a_makeE, a_putF, a_pfK, a_lkv, a_lkvK, a_dct1, a_dct1K, a_dct1K2, a_dct2, a_key, a_putK, a_pk0, a_pk1, a_pk2, a_rg2, a_rg2K, a_rg2K2, a_oL, set_nr h4, B__law_met_0, band, pk]
theorem met_out (v : D) (all : List Nat) (V : Nat) (hV : V ≤ 6) : ∀ (ls acc : List Nat) (s3 s4 : Sl), Cl V acc → Nr s3 → Nr s4 → ∃ s3' s4',
    forL (setV 3) B__law_met_1 (rowD ls) [.val v, .val (.lst (rowD all)), .own (metD acc), s3, s4] = .nx [.val v, .val (.lst (rowD all)), .own (metD (metAll ls acc)), s3', s4']
  | [], acc, s3, s4, _, _, _ => ⟨s3, s4, rfl⟩
  | l :: r, acc, s3, s4, c, h3, h4 => by
    have hp : 2 ^ V ≤ 2 ^ 6 := Nat.pow_le_pow_right (by decide) hV
    have hl := c.len
    obtain ⟨s4a, h4a, e1⟩ := met_in v (.lst (rowD all)) l acc acc s4 (by omega) h4
    obtain ⟨s3', s4', e2⟩ := met_out v all V hV r (meetIn l acc acc) (.val (.int (l : Int))) s4a (c.meetIn l) (nr_val _) h4a
    refine ⟨s3', s4', ?_⟩
    rw [metAll, ← e2]
    show forL _ _ (.int (l : Int) :: rowD r) _ = _
    have lk : ∀ δ, lkvK δ (some (metD acc)) = .ok (.lst (rowD acc)) δ := fun δ => by rw [← key_nats]; rfl
    have it : ∀ (ds : List D) δ, itK1 dItems (.ok (.lst ds) δ) = .ok ds δ := fun _ _ => rfl
    simp -implicitDefEqProofs only [a_seq, a_expr, a_ret, a_retO, a_set, a_setO, a_if, a_unp, a_for, a_nil, a_retN, a_then_0, a_then_1, a_then_2, a_then_3, a_sK_0, a_sK_1, a_ifS_0, a_ifS_1, a_ifS_2, a_k_0, a_k_1, a_k_2, a_k_3, a_k_4, a_k_5, a_k_6, a_setV, a_setOd, a_setVK_0, a_setVK_1, a_setVK_2, a_setVK_3, a_setVK_4, a_setVK_5, a_c, a_var, a_varK_0, a_varK_1, a_bin, a_binK_0, a_binK_1, a_binK_2, a_binK_3, a_oE_0, a_oE_1, a_un, a_unK_0, a_unK_1, a_unK_2, a_unK_3, a_test, a_tru, a_not, a_asB_0, a_asB_1, a_asB_2, a_asB_3, a_lst_0, a_lst_1, a_and, a_or, a_andK_0, a_andK_1, a_andK_2, a_andK_3, a_andK_4, a_andK_5, a_dIf, a_tand, a_tor, a_tnot, a_ifK_0, a_ifK_1, a_ifK_2, a_ifK_3, a_ifK_4, a_cons, a_consK_0, a_consK_1, a_consK_2, a_consK_3, a_consK_4, a_refA, a_refK_0, a_refK_1, a_refK_2, a_cb, a_tup, a_dLst, a_vals0, a_vals1, a_vals2, a_vals3, a_vals4, call_eq, callO_eq, a_call1, a_call2, a_call3, a_call4, a_rf0, a_rf1, a_rf2, a_rfK_0, a_rfK_1, a_rfK_2, a_end0_0, a_end0_1, a_end0_2, a_end0_3, a_end1, a_put1_0, a_put1_1, a_look, a_lkK_0, a_lkK_1, a_lkK_2, a_ixV, a_ixK_0, a_ixK_1, a_ixK_2, a_lenV, a_truV, a_len_0, a_len_1, a_len_2, a_len_3, a_len_4, a_it, a_rg1, a_rgL, a_en, a_zp, a_itK_0, a_itK_1, a_itK_2, a_itE_0, a_itE_1, a_comp, a_compK_0, a_compK_1, a_isi, a_gI_0, a_gI_1, a_gI_2, List.getElem?_cons_zero, List.getElem?_cons_succ, List.set_cons_zero, List.set_cons_succ, Option.bind_some, Option.map_some, f_nil, f_cons, f_some, f_nx, f_ct, f_bk, f_rt, f_ex, a_putV, a_pv0, a_pv1, a_put, a_sp0, a_sp1, a_sp2, a_sp3, a_sp4, a_app, a_sa1, a_sa2, a_aug, a_au1, a_au2, a_au3, gEq_int, gNe_int, ct_rf, ct_own, if_true, if_false, Bool.false_eq_true, a_try, a_tryK_0, a_tryK_1, a_tryK_2, a_tryH_0, a_tryH_1, a_tryK2_0, a_tryK2_1, a_hdS_0, a_hdS_1, a_compX, a_compKX_0, a_fld, a_meth, a_prop, a_propK, a_propE, a_make, a_makeK, a_makeE, a_putF, a_pfK, a_lkv, a_lkvK, a_dct1, a_dct1K, a_dct1K2, a_dct2, a_key, a_putK, a_pk0, a_pk1, a_pk2, a_rg2, a_rg2K, a_rg2K2, a_oL, set_nr h3, B__law_met_1, lk, it, e1]
theorem met_ev (V : Nat) (h2 : V ≤ 6) (ls : List Nat) : fn__law_met [.int (V : Int), .lst (rowD ls)] = .ret (.lst (rowD (met V ls))) [] := by
  rw [o__law_met]
  obtain ⟨s3', s4', e⟩ := met_out (.int (V : Int)) ls V h2 ls [2 ^ V - 1] .un .un (Cl.one V) nr_un nr_un
  have e0 := every_ev V h2
  have d1 : D.dct [(Sum.inl (((2 ^ V - 1 : Nat)) : Int) : Key)] [D.bl true] = metD [2 ^ V - 1] := rfl
  have it : ∀ (ds : List D) δ, itK1 dItems (.ok (.lst ds) δ) = .ok ds δ := fun _ _ => rfl
  have lk : ∀ ks δ, lkvK δ (some (metD ks)) = .ok (.lst (rowD ks)) δ := fun ks δ => by rw [← key_nats]; rfl
  have so : gSorted [.lst (rowD (metAll ls [2 ^ V - 1]))] = some (.lst (rowD (met V ls))) := by
    show (intsD (rowD _)).map _ = _
    rw [intsD_nats, Option.map_some, sortI_nat, List.map_map]; rfl
  simp -implicitDefEqProofs only [F__law_met, a_seq, a_expr, a_ret, a_retO, a_set, a_setO, a_if, a_unp, a_for, a_nil, a_retN, a_then_0, a_then_1, a_then_2, a_then_3, a_sK_0, a_sK_1, a_ifS_0, a_ifS_1, a_ifS_2, a_k_0, a_k_1, a_k_2, a_k_3, a_k_4, a_k_5, a_k_6, a_setV, a_setOd, a_setVK_0, a_setVK_1, a_setVK_2, a_setVK_3, a_setVK_4, a_setVK_5, a_c, a_var, a_varK_0, a_varK_1, a_bin, a_binK_0, a_binK_1, a_binK_2, a_binK_3, a_oE_0, a_oE_1, a_un, a_unK_0, a_unK_1, a_unK_2, a_unK_3, a_test, a_tru, a_not, a_asB_0, a_asB_1, a_asB_2, a_asB_3, a_lst_0, a_lst_1, a_and, a_or, a_andK_0, a_andK_1, a_andK_2, a_andK_3, a_andK_4, a_andK_5, a_dIf, a_tand, a_tor, a_tnot, a_ifK_0, a_ifK_1, a_ifK_2, a_ifK_3, a_ifK_4, a_cons, a_consK_0, a_consK_1, a_consK_2, a_consK_3, a_consK_4, a_refA, a_refK_0, a_refK_1, a_refK_2, a_cb, a_tup, a_dLst, a_vals0, a_vals1, a_vals2, a_vals3, a_vals4, call_eq, callO_eq, a_call1, a_call2, a_call3, a_call4, a_rf0, a_rf1, a_rf2, a_rfK_0, a_rfK_1, a_rfK_2, a_end0_0, a_end0_1, a_end0_2, a_end0_3, a_end1, a_put1_0, a_put1_1, a_look, a_lkK_0, a_lkK_1, a_lkK_2, a_ixV, a_ixK_0, a_ixK_1, a_ixK_2, a_lenV, a_truV, a_len_0, a_len_1, a_len_2, a_len_3, a_len_4, a_it, a_rg1, a_rgL, a_en, a_zp, a_itK_0, a_itK_1, a_itK_2, a_itE_0, a_itE_1, a_comp, a_compK_0, a_compK_1, a_isi, a_gI_0, a_gI_1, a_gI_2, List.getElem?_cons_zero, List.getElem?_cons_succ, List.set_cons_zero, List.set_cons_succ, Option.bind_some, Option.map_some, f_nil, f_cons, f_some, f_nx, f_ct, f_bk, f_rt, f_ex, a_putV, a_pv0, a_pv1, a_put, a_sp0, a_sp1, a_sp2, a_sp3, a_sp4, a_app, a_sa1, a_sa2, a_aug, a_au1, a_au2, a_au3, gEq_int, gNe_int, ct_rf, ct_own, if_true, if_false, Bool.false_eq_true, a_try, a_tryK_0, a_tryK_1, a_tryK_2, a_tryH_0, a_tryH_1, a_tryK2_0, a_tryK2_1, a_hdS_0, a_hdS_1, a_compX, a_compKX_0, a_fld, a_meth, a_prop, a_propK, a_propE, a_make, a_makeK, a_makeE, a_putF, a_pfK, a_lkv, a_lkvK, a_dct1, a_dct1K, a_dct1K2, a_dct2, a_key, a_putK, a_pk0, a_pk1, a_pk2, a_rg2, a_rg2K, a_rg2K2, a_oL, e0, d1, it, e, lk, so]
  rfl
theorem at_last {ms : List Nat} {x : Nat} (h : ms[ms.length - 1]? = some x) (hn : ms ≠ []) : idxD (.lst (rowD ms)) (.int (-1)) = some (.int (x : Int)) ∧ idxD (.tup (rowD ms)) (.int (-1)) = some (.int (x : Int)) := by
  have hp : 0 < ms.length := List.length_pos_iff.mpr hn
  have e : ixN (rowD ms).length (-1) = some (ms.length - 1) := by
    rw [row_len]
    unfold L2.ixN
    rw [if_neg (by omega), if_pos (by omega)]
    congr 1
    omega
  have q : (rowD ms)[ms.length - 1]? = some (.int (x : Int)) := by
    show (ms.map _)[ms.length - 1]? = _
    rw [List.getElem?_map, h]; rfl
  constructor
  · show L2.atI (rowD ms) (-1) = _
    unfold L2.atI; rw [e]; exact q
  · show L2.atI (rowD ms) (-1) = _
    unfold L2.atI; rw [e]; exact q
theorem neg1 : gU (fun i => -i) (.int 1) = some (.int (-1)) := rfl
theorem rd_loop (mem : D) (l : Nat) : ∀ (r : List Nat) (acc : Nat) (s3 : Sl), Nr s3 → ∃ s3',
    forL (setV 3) B__law_rounded_0 (rowD r) [.val mem, .val (.int (l : Int)), .val (.int (acc : Int)), s3] = .nx [.val mem, .val (.int (l : Int)), .val (.int ((rdF l r acc : Nat) : Int)), s3']
  | [], acc, s3, _ => ⟨s3, rfl⟩
  | m :: r, acc, s3, h3 => by
    obtain ⟨s3', e⟩ := rd_loop mem l r (if l &&& m = l then acc &&& m else acc) (.val (.int (m : Int))) (nr_val _)
    refine ⟨s3', ?_⟩
    rw [rdF, ← e]
    show forL _ _ (.int (m : Int) :: rowD r) _ = _
    by_cases q : l &&& m = l
    · have b : ((((l &&& m : Nat) : Int)) == (l : Int)) = true := by rw [q]; exact beq_self_eq_true _
      rw [if_pos q]
      simp -implicitDefEqProofs only [a_seq, a_expr, a_ret, a_retO, a_set, a_setO, a_if, a_unp, a_for, a_nil, a_retN, a_then_0, a_then_1, a_then_2, a_then_3, a_sK_0, a_sK_1, a_ifS_0, a_ifS_1, a_ifS_2, a_k_0, a_k_1, a_k_2, a_k_3, a_k_4, a_k_5, a_k_6, a_setV, a_setOd, a_setVK_0, a_setVK_1, a_setVK_2, a_setVK_3, a_setVK_4, a_setVK_5, a_c, a_var, a_varK_0, a_varK_1, a_bin, a_binK_0, a_binK_1, a_binK_2, a_binK_3, a_oE_0, a_oE_1, a_un, a_unK_0, a_unK_1, a_unK_2, a_unK_3, a_test, a_tru, a_not, a_asB_0, a_asB_1, a_asB_2, a_asB_3, a_lst_0, a_lst_1, a_and, a_or, a_andK_0, a_andK_1, a_andK_2, a_andK_3, a_andK_4, a_andK_5, a_dIf, a_tand, a_tor, a_tnot, a_ifK_0, a_ifK_1, a_ifK_2, a_ifK_3, a_ifK_4, a_cons, a_consK_0, a_consK_1, a_consK_2, a_consK_3, a_consK_4, a_refA, a_refK_0, a_refK_1, a_refK_2, a_cb, a_tup, a_dLst, a_vals0, a_vals1, a_vals2, a_vals3, a_vals4, call_eq, callO_eq, a_call1, a_call2, a_call3, a_call4, a_rf0, a_rf1, a_rf2, a_rfK_0, a_rfK_1, a_rfK_2, a_end0_0, a_end0_1, a_end0_2, a_end0_3, a_end1, a_put1_0, a_put1_1, a_look, a_lkK_0, a_lkK_1, a_lkK_2, a_ixV, a_ixK_0, a_ixK_1, a_ixK_2, a_lenV, a_truV, a_len_0, a_len_1, a_len_2, a_len_3, a_len_4, a_it, a_rg1, a_rgL, a_en, a_zp, a_itK_0, a_itK_1, a_itK_2, a_itE_0, a_itE_1, a_comp, a_compK_0, a_compK_1, a_isi, a_gI_0, a_gI_1, a_gI_2, List.getElem?_cons_zero, List.getElem?_cons_succ, List.set_cons_zero, List.set_cons_succ, Option.bind_some, Option.map_some, f_nil, f_cons, f_some, f_nx, f_ct, f_bk, f_rt, f_ex, a_putV, a_pv0, a_pv1, a_put, a_sp0, a_sp1, a_sp2, a_sp3, a_sp4, a_app, a_sa1, a_sa2, a_aug, a_au1, a_au2, a_au3, gEq_int, gNe_int, ct_rf, ct_own, if_true, if_false, Bool.false_eq_true, a_try, a_tryK_0, a_tryK_1, a_tryK_2, a_tryH_0, a_tryH_1, a_tryK2_0, a_tryK2_1, a_hdS_0, a_hdS_1, a_compX, a_compKX_0, a_fld, a_meth, a_prop, a_propK, a_propE, a_make, a_makeK, a_makeE, a_putF, a_pfK, a_lkv, a_lkvK, a_dct1, a_dct1K, a_dct1K2, a_dct2, a_key, a_putK, a_pk0, a_pk1, a_pk2, a_rg2, a_rg2K, a_rg2K2, a_oL, set_nr h3, B__law_rounded_0, band, b]
    · have b : ((((l &&& m : Nat) : Int)) == (l : Int)) = false := beq_eq_false_iff_ne.mpr (by omega)
      rw [if_neg q]
      simp -implicitDefEqProofs only [a_seq, a_expr, a_ret, a_retO, a_set, a_setO, a_if, a_unp, a_for, a_nil, a_retN, a_then_0, a_then_1, a_then_2, a_then_3, a_sK_0, a_sK_1, a_ifS_0, a_ifS_1, a_ifS_2, a_k_0, a_k_1, a_k_2, a_k_3, a_k_4, a_k_5, a_k_6, a_setV, a_setOd, a_setVK_0, a_setVK_1, a_setVK_2, a_setVK_3, a_setVK_4, a_setVK_5, a_c, a_var, a_varK_0, a_varK_1, a_bin, a_binK_0, a_binK_1, a_binK_2, a_binK_3, a_oE_0, a_oE_1, a_un, a_unK_0, a_unK_1, a_unK_2, a_unK_3, a_test, a_tru, a_not, a_asB_0, a_asB_1, a_asB_2, a_asB_3, a_lst_0, a_lst_1, a_and, a_or, a_andK_0, a_andK_1, a_andK_2, a_andK_3, a_andK_4, a_andK_5, a_dIf, a_tand, a_tor, a_tnot, a_ifK_0, a_ifK_1, a_ifK_2, a_ifK_3, a_ifK_4, a_cons, a_consK_0, a_consK_1, a_consK_2, a_consK_3, a_consK_4, a_refA, a_refK_0, a_refK_1, a_refK_2, a_cb, a_tup, a_dLst, a_vals0, a_vals1, a_vals2, a_vals3, a_vals4, call_eq, callO_eq, a_call1, a_call2, a_call3, a_call4, a_rf0, a_rf1, a_rf2, a_rfK_0, a_rfK_1, a_rfK_2, a_end0_0, a_end0_1, a_end0_2, a_end0_3, a_end1, a_put1_0, a_put1_1, a_look, a_lkK_0, a_lkK_1, a_lkK_2, a_ixV, a_ixK_0, a_ixK_1, a_ixK_2, a_lenV, a_truV, a_len_0, a_len_1, a_len_2, a_len_3, a_len_4, a_it, a_rg1, a_rgL, a_en, a_zp, a_itK_0, a_itK_1, a_itK_2, a_itE_0, a_itE_1, a_comp, a_compK_0, a_compK_1, a_isi, a_gI_0, a_gI_1, a_gI_2, List.getElem?_cons_zero, List.getElem?_cons_succ, List.set_cons_zero, List.set_cons_succ, Option.bind_some, Option.map_some, f_nil, f_cons, f_some, f_nx, f_ct, f_bk, f_rt, f_ex, a_putV, a_pv0, a_pv1, a_put, a_sp0, a_sp1, a_sp2, a_sp3, a_sp4, a_app, a_sa1, a_sa2, a_aug, a_au1, a_au2, a_au3, gEq_int, gNe_int, ct_rf, ct_own, if_true, if_false, Bool.false_eq_true, a_try, a_tryK_0, a_tryK_1, a_tryK_2, a_tryH_0, a_tryH_1, a_tryK2_0, a_tryK2_1, a_hdS_0, a_hdS_1, a_compX, a_compKX_0, a_fld, a_meth, a_prop, a_propK, a_propE, a_make, a_makeK, a_makeE, a_putF, a_pfK, a_lkv, a_lkvK, a_dct1, a_dct1K, a_dct1K2, a_dct2, a_key, a_putK, a_pk0, a_pk1, a_pk2, a_rg2, a_rg2K, a_rg2K2, a_oL, set_nr h3, B__law_rounded_0, band, b]
theorem rounded_ev {v : Nat} {ms : List Nat} (F : Fam v ms) (l : Nat) : fn__law_rounded [.lst (rowD ms), .int (l : Int)] = .ret (.int ((Rd v ms l : Nat) : Int)) [] := by
  rw [o__law_rounded]
  obtain ⟨s3', e⟩ := rd_loop (.lst (rowD ms)) l ms (2 ^ v - 1) .un nr_un
  have a := (at_last F.last F.ne).1
  have it : ∀ (ds : List D) δ, itK1 dItems (.ok (.lst ds) δ) = .ok ds δ := fun _ _ => rfl
  simp -implicitDefEqProofs only [F__law_rounded, a_seq, a_expr, a_ret, a_retO, a_set, a_setO, a_if, a_unp, a_for, a_nil, a_retN, a_then_0, a_then_1, a_then_2, a_then_3, a_sK_0, a_sK_1, a_ifS_0, a_ifS_1, a_ifS_2, a_k_0, a_k_1, a_k_2, a_k_3, a_k_4, a_k_5, a_k_6, a_setV, a_setOd, a_setVK_0, a_setVK_1, a_setVK_2, a_setVK_3, a_setVK_4, a_setVK_5, a_c, a_var, a_varK_0, a_varK_1, a_bin, a_binK_0, a_binK_1, a_binK_2, a_binK_3, a_oE_0, a_oE_1, a_un, a_unK_0, a_unK_1, a_unK_2, a_unK_3, a_test, a_tru, a_not, a_asB_0, a_asB_1, a_asB_2, a_asB_3, a_lst_0, a_lst_1, a_and, a_or, a_andK_0, a_andK_1, a_andK_2, a_andK_3, a_andK_4, a_andK_5, a_dIf, a_tand, a_tor, a_tnot, a_ifK_0, a_ifK_1, a_ifK_2, a_ifK_3, a_ifK_4, a_cons, a_consK_0, a_consK_1, a_consK_2, a_consK_3, a_consK_4, a_refA, a_refK_0, a_refK_1, a_refK_2, a_cb, a_tup, a_dLst, a_vals0, a_vals1, a_vals2, a_vals3, a_vals4, call_eq, callO_eq, a_call1, a_call2, a_call3, a_call4, a_rf0, a_rf1, a_rf2, a_rfK_0, a_rfK_1, a_rfK_2, a_end0_0, a_end0_1, a_end0_2, a_end0_3, a_end1, a_put1_0, a_put1_1, a_look, a_lkK_0, a_lkK_1, a_lkK_2, a_ixV, a_ixK_0, a_ixK_1, a_ixK_2, a_lenV, a_truV, a_len_0, a_len_1, a_len_2, a_len_3, a_len_4, a_it, a_rg1, a_rgL, a_en, a_zp, a_itK_0, a_itK_1, a_itK_2, a_itE_0, a_itE_1, a_comp, a_compK_0, a_compK_1, a_isi, a_gI_0, a_gI_1, a_gI_2, List.getElem?_cons_zero, List.getElem?_cons_succ, List.set_cons_zero, List.set_cons_succ, Option.bind_some, Option.map_some, f_nil, f_cons, f_some, f_nx, f_ct, f_bk, f_rt, f_ex, a_putV, a_pv0, a_pv1, a_put, a_sp0, a_sp1, a_sp2, a_sp3, a_sp4, a_app, a_sa1, a_sa2, a_aug, a_au1, a_au2, a_au3, gEq_int, gNe_int, ct_rf, ct_own, if_true, if_false, Bool.false_eq_true, a_try, a_tryK_0, a_tryK_1, a_tryK_2, a_tryH_0, a_tryH_1, a_tryK2_0, a_tryK2_1, a_hdS_0, a_hdS_1, a_compX, a_compKX_0, a_fld, a_meth, a_prop, a_propK, a_propE, a_make, a_makeK, a_makeE, a_putF, a_pfK, a_lkv, a_lkvK, a_dct1, a_dct1K, a_dct1K2, a_dct2, a_key, a_putK, a_pk0, a_pk1, a_pk2, a_rg2, a_rg2K, a_rg2K2, a_oL, neg1, a, it, e]
  rfl
end LW

set_option maxRecDepth 100000
set_option maxHeartbeats 2000000
namespace LW
open PySem PySem.Spec PyProof.Rows L2 DL
theorem addn (a t : Nat) : gAdd (.int (a : Int)) (.int (t : Int)) = some (.int ((a + t : Nat) : Int)) := by
  show some (D.int ((a : Int) + (t : Int))) = _
  rw [Int.natCast_add]
theorem rowD_range (n : Nat) : rgF 0 n = rowD (List.range n) := by
  unfold rgF rowD
  rw [List.range_eq_range']
theorem rgl (n : Nat) (h : n ≤ 4096) : rgL (.int ((n : Nat) : Int)) = some (.lst (rowD (List.range n))) := by
  show (if 0 ≤ ((n : Nat) : Int) ∧ ((n : Nat) : Int) ≤ 16777216 then some (D.lst (rngD 0 ((n : Nat) : Int))) else none) = _
  rw [if_pos ⟨by omega, by omega⟩, rng0]; rfl
theorem it_lst (ds : List D) (δ : DEnv) : itK1 dItems (.ok (.lst ds) δ) = .ok ds δ := rfl
theorem it_tup (ds : List D) (δ : DEnv) : itK1 dItems (.ok (.tup ds) δ) = .ok ds δ := rfl
theorem pow_le {v : Nat} (h : v ≤ 6) : 2 ^ v ≤ 64 := Nat.le_trans (Nat.pow_le_pow_right (by decide) h) (by decide)
theorem eqn (a b : Nat) (h : a ≠ b) : (((a : Int)) == (b : Int)) = false := beq_eq_false_iff_ne.mpr (by omega)
theorem members_ev (d : D) (v : Nat) (h : Hand d) (h1 : 1 ≤ v) (h2 : v ≤ 6) : ∃ (ms : List Nat) (d' : D), fn__law_members [d, .int (v : Int)] = .ret (.lst (rowD ms)) [d'] ∧ Hand d' ∧ Fam v ms := by
  obtain ⟨w, d1, e, hd1, hw⟩ := take_nat d 16 h (by decide) (by decide)
  have e : fn__law_take [d, .int 16] = .ret (.int (w : Int)) [d1] := e
  have cv : cPow 1 (v : Int) = true := cpw (by omega)
  have hp := pow_le h2
  rw [o__law_members]
  by_cases w0 : w = 0
  · subst w0
    have b : (((0 : Nat) : Int) == 0) = true := rfl
    have g := rgl (2 ^ v) (by omega)
    refine ⟨List.range (2 ^ v), d1, ?_, hd1, fam_all v⟩
    simp -implicitDefEqProofs only [F__law_members, a_seq, a_expr, a_ret, a_retO, a_set, a_setO, a_if, a_unp, a_for, a_nil, a_retN, a_then_0, a_then_1, a_then_2, a_then_3, a_sK_0, a_sK_1, a_ifS_0, a_ifS_1, a_ifS_2, a_k_0, a_k_1, a_k_2, a_k_3, a_k_4, a_k_5, a_k_6, a_setV, a_setOd, a_setVK_0, a_setVK_1, a_setVK_2, a_setVK_3, a_setVK_4, a_setVK_5, a_c, a_var, a_varK_0, a_varK_1, a_bin, a_binK_0, a_binK_1, a_binK_2, a_binK_3, a_oE_0, a_oE_1, a_un, a_unK_0, a_unK_1, a_unK_2, a_unK_3, a_test, a_tru, a_not, a_asB_0, a_asB_1, a_asB_2, a_asB_3, a_lst_0, a_lst_1, a_and, a_or, a_andK_0, a_andK_1, a_andK_2, a_andK_3, a_andK_4, a_andK_5, a_dIf, a_tand, a_tor, a_tnot, a_ifK_0, a_ifK_1, a_ifK_2, a_ifK_3, a_ifK_4, a_cons, a_consK_0, a_consK_1, a_consK_2, a_consK_3, a_consK_4, a_refA, a_refK_0, a_refK_1, a_refK_2, a_cb, a_tup, a_dLst, a_vals0, a_vals1, a_vals2, a_vals3, a_vals4, call_eq, callO_eq, a_call1, a_call2, a_call3, a_call4, a_rf0, a_rf1, a_rf2, a_rfK_0, a_rfK_1, a_rfK_2, a_end0_0, a_end0_1, a_end0_2, a_end0_3, a_end1, a_put1_0, a_put1_1, a_look, a_lkK_0, a_lkK_1, a_lkK_2, a_ixV, a_ixK_0, a_ixK_1, a_ixK_2, a_lenV, a_truV, a_len_0, a_len_1, a_len_2, a_len_3, a_len_4, a_it, a_rg1, a_rgL, a_en, a_zp, a_itK_0, a_itK_1, a_itK_2, a_itE_0, a_itE_1, a_comp, a_compK_0, a_compK_1, a_isi, a_gI_0, a_gI_1, a_gI_2, List.getElem?_cons_zero, List.getElem?_cons_succ, List.set_cons_zero, List.set_cons_succ, Option.bind_some, Option.map_some, f_nil, f_cons, f_some, f_nx, f_ct, f_bk, f_rt, f_ex, a_putV, a_pv0, a_pv1, a_put, a_sp0, a_sp1, a_sp2, a_sp3, a_sp4, a_app, a_sa1, a_sa2, a_aug, a_au1, a_au2, a_au3, gEq_int, gNe_int, ct_rf, ct_own, if_true, if_false, Bool.false_eq_true, a_try, a_tryK_0, a_tryK_1, a_tryK_2, a_tryH_0, a_tryH_1, a_tryK2_0, a_tryK2_1, a_hdS_0, a_hdS_1, a_compX, a_compKX_0, a_fld, a_meth, a_prop, a_propK, a_propE, a_make, a_makeK, a_makeE, a_putF, a_pfK, a_lkv, a_lkvK, a_dct1, a_dct1K, a_dct1K2, a_dct2, a_key, a_putK, a_pk0, a_pk1, a_pk2, a_rg2, a_rg2K, a_rg2K2, a_oL, e, b, cv, shl1, g]
    rfl
  · have b0 : ((w : Int) == 0) = false := eqn w 0 w0
    by_cases w1 : w = 1
    · subst w1
      have b : (((1 : Nat) : Int) == 1) = true := rfl
      have e0 := every_ev v h2
      have l1 : gLstD [.int ((2 ^ v - 1 : Nat) : Int)] = some (.lst [.int ((2 ^ v - 1 : Nat) : Int)]) := if_pos (le_line (by show 1 ≤ 4096; decide))
      refine ⟨[2 ^ v - 1], d1, ?_, hd1, fam_top v⟩
      simp -implicitDefEqProofs only [F__law_members, a_seq, a_expr, a_ret, a_retO, a_set, a_setO, a_if, a_unp, a_for, a_nil, a_retN, a_then_0, a_then_1, a_then_2, a_then_3, a_sK_0, a_sK_1, a_ifS_0, a_ifS_1, a_ifS_2, a_k_0, a_k_1, a_k_2, a_k_3, a_k_4, a_k_5, a_k_6, a_setV, a_setOd, a_setVK_0, a_setVK_1, a_setVK_2, a_setVK_3, a_setVK_4, a_setVK_5, a_c, a_var, a_varK_0, a_varK_1, a_bin, a_binK_0, a_binK_1, a_binK_2, a_binK_3, a_oE_0, a_oE_1, a_un, a_unK_0, a_unK_1, a_unK_2, a_unK_3, a_test, a_tru, a_not, a_asB_0, a_asB_1, a_asB_2, a_asB_3, a_lst_0, a_lst_1, a_and, a_or, a_andK_0, a_andK_1, a_andK_2, a_andK_3, a_andK_4, a_andK_5, a_dIf, a_tand, a_tor, a_tnot, a_ifK_0, a_ifK_1, a_ifK_2, a_ifK_3, a_ifK_4, a_cons, a_consK_0, a_consK_1, a_consK_2, a_consK_3, a_consK_4, a_refA, a_refK_0, a_refK_1, a_refK_2, a_cb, a_tup, a_dLst, a_vals0, a_vals1, a_vals2, a_vals3, a_vals4, call_eq, callO_eq, a_call1, a_call2, a_call3, a_call4, a_rf0, a_rf1, a_rf2, a_rfK_0, a_rfK_1, a_rfK_2, a_end0_0, a_end0_1, a_end0_2, a_end0_3, a_end1, a_put1_0, a_put1_1, a_look, a_lkK_0, a_lkK_1, a_lkK_2, a_ixV, a_ixK_0, a_ixK_1, a_ixK_2, a_lenV, a_truV, a_len_0, a_len_1, a_len_2, a_len_3, a_len_4, a_it, a_rg1, a_rgL, a_en, a_zp, a_itK_0, a_itK_1, a_itK_2, a_itE_0, a_itE_1, a_comp, a_compK_0, a_compK_1, a_isi, a_gI_0, a_gI_1, a_gI_2, List.getElem?_cons_zero, List.getElem?_cons_succ, List.set_cons_zero, List.set_cons_succ, Option.bind_some, Option.map_some, f_nil, f_cons, f_some, f_nx, f_ct, f_bk, f_rt, f_ex, a_putV, a_pv0, a_pv1, a_put, a_sp0, a_sp1, a_sp2, a_sp3, a_sp4, a_app, a_sa1, a_sa2, a_aug, a_au1, a_au2, a_au3, gEq_int, gNe_int, ct_rf, ct_own, if_true, if_false, Bool.false_eq_true, a_try, a_tryK_0, a_tryK_1, a_tryK_2, a_tryH_0, a_tryH_1, a_tryK2_0, a_tryK2_1, a_hdS_0, a_hdS_1, a_compX, a_compKX_0, a_fld, a_meth, a_prop, a_propK, a_propE, a_make, a_makeK, a_makeE, a_putF, a_pfK, a_lkv, a_lkvK, a_dct1, a_dct1K, a_dct1K2, a_dct2, a_key, a_putK, a_pk0, a_pk1, a_pk2, a_rg2, a_rg2K, a_rg2K2, a_oL, e, b0, b, e0, l1]
      rfl
    · have b1 : ((w : Int) == 1) = false := eqn w 1 w1
      obtain ⟨t, d2, e2, hd2, ht⟩ := take_nat d1 4 hd1 (by decide) (by decide)
      have e2 : fn__law_take [d1, .int 4] = .ret (.int (t : Int)) [d2] := e2
      obtain ⟨ls, d3, e3, hd3, hl, hlt⟩ := draw_rows (A := setV 4) (el := E__law_members_0) (vs := [4]) (Δ := fun x => [.rf x, .val (.int (v : Int)), .val (.int (w : Int)), .un, .un]) (Γ := fun x z => [.rf x, .val (.int (v : Int)), .val (.int (w : Int)), .un, .val z]) (m := 2 ^ v) (n := 1 + t) (fun _ => rfl) (fun _ _ => rfl) (fun _ _ _ => rfl) (by omega) (fun s x hs hx => by
        obtain ⟨k, x', ek, hx', hk⟩ := take_nat x (2 ^ v) hx (Nat.pow_pos (by decide)) (by omega)
        refine ⟨k, x', ?_, hx', hk⟩
        simp -implicitDefEqProofs only [E__law_members_0, a_seq, a_expr, a_ret, a_retO, a_set, a_setO, a_if, a_unp, a_for, a_nil, a_retN, a_then_0, a_then_1, a_then_2, a_then_3, a_sK_0, a_sK_1, a_ifS_0, a_ifS_1, a_ifS_2, a_k_0, a_k_1, a_k_2, a_k_3, a_k_4, a_k_5, a_k_6, a_setV, a_setOd, a_setVK_0, a_setVK_1, a_setVK_2, a_setVK_3, a_setVK_4, a_setVK_5, a_c, a_var, a_varK_0, a_varK_1, a_bin, a_binK_0, a_binK_1, a_binK_2, a_binK_3, a_oE_0, a_oE_1, a_un, a_unK_0, a_unK_1, a_unK_2, a_unK_3, a_test, a_tru, a_not, a_asB_0, a_asB_1, a_asB_2, a_asB_3, a_lst_0, a_lst_1, a_and, a_or, a_andK_0, a_andK_1, a_andK_2, a_andK_3, a_andK_4, a_andK_5, a_dIf, a_tand, a_tor, a_tnot, a_ifK_0, a_ifK_1, a_ifK_2, a_ifK_3, a_ifK_4, a_cons, a_consK_0, a_consK_1, a_consK_2, a_consK_3, a_consK_4, a_refA, a_refK_0, a_refK_1, a_refK_2, a_cb, a_tup, a_dLst, a_vals0, a_vals1, a_vals2, a_vals3, a_vals4, call_eq, callO_eq, a_call1, a_call2, a_call3, a_call4, a_rf0, a_rf1, a_rf2, a_rfK_0, a_rfK_1, a_rfK_2, a_end0_0, a_end0_1, a_end0_2, a_end0_3, a_end1, a_put1_0, a_put1_1, a_look, a_lkK_0, a_lkK_1, a_lkK_2, a_ixV, a_ixK_0, a_ixK_1, a_ixK_2, a_lenV, a_truV, a_len_0, a_len_1, a_len_2, a_len_3, a_len_4, a_it, a_rg1, a_rgL, a_en, a_zp, a_itK_0, a_itK_1, a_itK_2, a_itE_0, a_itE_1, a_comp, a_compK_0, a_compK_1, a_isi, a_gI_0, a_gI_1, a_gI_2, List.getElem?_cons_zero, List.getElem?_cons_succ, List.set_cons_zero, List.set_cons_succ, Option.bind_some, Option.map_some, f_nil, f_cons, f_some, f_nx, f_ct, f_bk, f_rt, f_ex, a_putV, a_pv0, a_pv1, a_put, a_sp0, a_sp1, a_sp2, a_sp3, a_sp4, a_app, a_sa1, a_sa2, a_aug, a_au1, a_au2, a_au3, gEq_int, gNe_int, ct_rf, ct_own, if_true, if_false, Bool.false_eq_true, a_try, a_tryK_0, a_tryK_1, a_tryK_2, a_tryH_0, a_tryH_1, a_tryK2_0, a_tryK2_1, a_hdS_0, a_hdS_1, a_compX, a_compKX_0, a_fld, a_meth, a_prop, a_propK, a_propE, a_make, a_makeK, a_makeE, a_putF, a_pfK, a_lkv, a_lkvK, a_dct1, a_dct1K, a_dct1K2, a_dct2, a_key, a_putK, a_pk0, a_pk1, a_pk2, a_rg2, a_rg2K, a_rg2K2, a_oL, cv, shl1, ek]) d2 hd2
      obtain ⟨q, d4, e4, hd4, hq⟩ := take_nat d3 2 hd3 (by decide) (by decide)
      have e4 : fn__law_take [d3, .int 2] = .ret (.int (q : Int)) [d4] := e4
      have a1 : gAdd (.int 1) (.int (t : Int)) = some (.int ((1 + t : Nat) : Int)) := addn 1 t
      have i1 := itF (1 + t) (by omega)
      by_cases q0 : q = 0
      · subst q0
        have m := met_ev v h2 ls
        refine ⟨met v ls, d4, ?_, hd4, met_fam v ls⟩
        simp -implicitDefEqProofs only [F__law_members, a_seq, a_expr, a_ret, a_retO, a_set, a_setO, a_if, a_unp, a_for, a_nil, a_retN, a_then_0, a_then_1, a_then_2, a_then_3, a_sK_0, a_sK_1, a_ifS_0, a_ifS_1, a_ifS_2, a_k_0, a_k_1, a_k_2, a_k_3, a_k_4, a_k_5, a_k_6, a_setV, a_setOd, a_setVK_0, a_setVK_1, a_setVK_2, a_setVK_3, a_setVK_4, a_setVK_5, a_c, a_var, a_varK_0, a_varK_1, a_bin, a_binK_0, a_binK_1, a_binK_2, a_binK_3, a_oE_0, a_oE_1, a_un, a_unK_0, a_unK_1, a_unK_2, a_unK_3, a_test, a_tru, a_not, a_asB_0, a_asB_1, a_asB_2, a_asB_3, a_lst_0, a_lst_1, a_and, a_or, a_andK_0, a_andK_1, a_andK_2, a_andK_3, a_andK_4, a_andK_5, a_dIf, a_tand, a_tor, a_tnot, a_ifK_0, a_ifK_1, a_ifK_2, a_ifK_3, a_ifK_4, a_cons, a_consK_0, a_consK_1, a_consK_2, a_consK_3, a_consK_4, a_refA, a_refK_0, a_refK_1, a_refK_2, a_cb, a_tup, a_dLst, a_vals0, a_vals1, a_vals2, a_vals3, a_vals4, call_eq, callO_eq, a_call1, a_call2, a_call3, a_call4, a_rf0, a_rf1, a_rf2, a_rfK_0, a_rfK_1, a_rfK_2, a_end0_0, a_end0_1, a_end0_2, a_end0_3, a_end1, a_put1_0, a_put1_1, a_look, a_lkK_0, a_lkK_1, a_lkK_2, a_ixV, a_ixK_0, a_ixK_1, a_ixK_2, a_lenV, a_truV, a_len_0, a_len_1, a_len_2, a_len_3, a_len_4, a_it, a_rg1, a_rgL, a_en, a_zp, a_itK_0, a_itK_1, a_itK_2, a_itE_0, a_itE_1, a_comp, a_compK_0, a_compK_1, a_isi, a_gI_0, a_gI_1, a_gI_2, List.getElem?_cons_zero, List.getElem?_cons_succ, List.set_cons_zero, List.set_cons_succ, Option.bind_some, Option.map_some, f_nil, f_cons, f_some, f_nx, f_ct, f_bk, f_rt, f_ex, a_putV, a_pv0, a_pv1, a_put, a_sp0, a_sp1, a_sp2, a_sp3, a_sp4, a_app, a_sa1, a_sa2, a_aug, a_au1, a_au2, a_au3, gEq_int, gNe_int, ct_rf, ct_own, if_true, if_false, Bool.false_eq_true, a_try, a_tryK_0, a_tryK_1, a_tryK_2, a_tryH_0, a_tryH_1, a_tryK2_0, a_tryK2_1, a_hdS_0, a_hdS_1, a_compX, a_compKX_0, a_fld, a_meth, a_prop, a_propK, a_propE, a_make, a_makeK, a_makeE, a_putF, a_pfK, a_lkv, a_lkvK, a_dct1, a_dct1K, a_dct1K2, a_dct2, a_key, a_putK, a_pk0, a_pk1, a_pk2, a_rg2, a_rg2K, a_rg2K2, a_oL, e, b0, b1, e2, a1, i1, e3, e4, nz0, m]
        rfl
      · have m := met_ev v h2 (ls ++ [0])
        have r0 : rowD ls ++ [.int 0] = rowD (ls ++ [0]) := by unfold rowD; rw [List.map_append]; rfl
        have lz : (rowD ls).length < sizeLine := by rw [row_len, sizeLine_eq]; omega
        have sa : ∀ δ v, saK3 3 v δ (some (.lst (rowD ls))) = oNx (putV 3 (.lst (rowD ls ++ [v])) δ) := fun δ v => a_sa3 _ _ _ _ lz
        refine ⟨met v (ls ++ [0]), d4, ?_, hd4, met_fam v _⟩
        simp -implicitDefEqProofs only [F__law_members, a_seq, a_expr, a_ret, a_retO, a_set, a_setO, a_if, a_unp, a_for, a_nil, a_retN, a_then_0, a_then_1, a_then_2, a_then_3, a_sK_0, a_sK_1, a_ifS_0, a_ifS_1, a_ifS_2, a_k_0, a_k_1, a_k_2, a_k_3, a_k_4, a_k_5, a_k_6, a_setV, a_setOd, a_setVK_0, a_setVK_1, a_setVK_2, a_setVK_3, a_setVK_4, a_setVK_5, a_c, a_var, a_varK_0, a_varK_1, a_bin, a_binK_0, a_binK_1, a_binK_2, a_binK_3, a_oE_0, a_oE_1, a_un, a_unK_0, a_unK_1, a_unK_2, a_unK_3, a_test, a_tru, a_not, a_asB_0, a_asB_1, a_asB_2, a_asB_3, a_lst_0, a_lst_1, a_and, a_or, a_andK_0, a_andK_1, a_andK_2, a_andK_3, a_andK_4, a_andK_5, a_dIf, a_tand, a_tor, a_tnot, a_ifK_0, a_ifK_1, a_ifK_2, a_ifK_3, a_ifK_4, a_cons, a_consK_0, a_consK_1, a_consK_2, a_consK_3, a_consK_4, a_refA, a_refK_0, a_refK_1, a_refK_2, a_cb, a_tup, a_dLst, a_vals0, a_vals1, a_vals2, a_vals3, a_vals4, call_eq, callO_eq, a_call1, a_call2, a_call3, a_call4, a_rf0, a_rf1, a_rf2, a_rfK_0, a_rfK_1, a_rfK_2, a_end0_0, a_end0_1, a_end0_2, a_end0_3, a_end1, a_put1_0, a_put1_1, a_look, a_lkK_0, a_lkK_1, a_lkK_2, a_ixV, a_ixK_0, a_ixK_1, a_ixK_2, a_lenV, a_truV, a_len_0, a_len_1, a_len_2, a_len_3, a_len_4, a_it, a_rg1, a_rgL, a_en, a_zp, a_itK_0, a_itK_1, a_itK_2, a_itE_0, a_itE_1, a_comp, a_compK_0, a_compK_1, a_isi, a_gI_0, a_gI_1, a_gI_2, List.getElem?_cons_zero, List.getElem?_cons_succ, List.set_cons_zero, List.set_cons_succ, Option.bind_some, Option.map_some, f_nil, f_cons, f_some, f_nx, f_ct, f_bk, f_rt, f_ex, a_putV, a_pv0, a_pv1, a_put, a_sp0, a_sp1, a_sp2, a_sp3, a_sp4, a_app, a_sa1, a_sa2, a_aug, a_au1, a_au2, a_au3, gEq_int, gNe_int, ct_rf, ct_own, if_true, if_false, Bool.false_eq_true, a_try, a_tryK_0, a_tryK_1, a_tryK_2, a_tryH_0, a_tryH_1, a_tryK2_0, a_tryK2_1, a_hdS_0, a_hdS_1, a_compX, a_compKX_0, a_fld, a_meth, a_prop, a_propK, a_propE, a_make, a_makeK, a_makeE, a_putF, a_pfK, a_lkv, a_lkvK, a_dct1, a_dct1K, a_dct1K2, a_dct2, a_key, a_putK, a_pk0, a_pk1, a_pk2, a_rg2, a_rg2K, a_rg2K2, a_oL, e, b0, b1, e2, a1, i1, e3, e4, nz q q0, sa, r0, m]
        rfl
theorem rich_ev (d : D) (v : Nat) (h : Hand d) (h1 : 1 ≤ v) (h2 : v ≤ 6) : ∃ (ms : List Nat) (d' : D), fn__law_rich_members [d, .int (v : Int)] = .ret (.lst (rowD ms)) [d'] ∧ Hand d' ∧ Fam v ms := by
  obtain ⟨w, d1, e, hd1, hw⟩ := take_nat d 2 h (by decide) (by decide)
  have e : fn__law_take [d, .int 2] = .ret (.int (w : Int)) [d1] := e
  have cv : cPow 1 (v : Int) = true := cpw (by omega)
  have hp := pow_le h2
  rw [o__law_rich_members]
  by_cases w0 : w = 0
  · subst w0
    obtain ⟨ms, d2, e2, hd2, F⟩ := members_ev d1 v hd1 h1 h2
    have b : (((0 : Nat) : Int) == 0) = true := rfl
    refine ⟨ms, d2, ?_, hd2, F⟩
    simp -implicitDefEqProofs only [F__law_rich_members, a_seq, a_expr, a_ret, a_retO, a_set, a_setO, a_if, a_unp, a_for, a_nil, a_retN, a_then_0, a_then_1, a_then_2, a_then_3, a_sK_0, a_sK_1, a_ifS_0, a_ifS_1, a_ifS_2, a_k_0, a_k_1, a_k_2, a_k_3, a_k_4, a_k_5, a_k_6, a_setV, a_setOd, a_setVK_0, a_setVK_1, a_setVK_2, a_setVK_3, a_setVK_4, a_setVK_5, a_c, a_var, a_varK_0, a_varK_1, a_bin, a_binK_0, a_binK_1, a_binK_2, a_binK_3, a_oE_0, a_oE_1, a_un, a_unK_0, a_unK_1, a_unK_2, a_unK_3, a_test, a_tru, a_not, a_asB_0, a_asB_1, a_asB_2, a_asB_3, a_lst_0, a_lst_1, a_and, a_or, a_andK_0, a_andK_1, a_andK_2, a_andK_3, a_andK_4, a_andK_5, a_dIf, a_tand, a_tor, a_tnot, a_ifK_0, a_ifK_1, a_ifK_2, a_ifK_3, a_ifK_4, a_cons, a_consK_0, a_consK_1, a_consK_2, a_consK_3, a_consK_4, a_refA, a_refK_0, a_refK_1, a_refK_2, a_cb, a_tup, a_dLst, a_vals0, a_vals1, a_vals2, a_vals3, a_vals4, call_eq, callO_eq, a_call1, a_call2, a_call3, a_call4, a_rf0, a_rf1, a_rf2, a_rfK_0, a_rfK_1, a_rfK_2, a_end0_0, a_end0_1, a_end0_2, a_end0_3, a_end1, a_put1_0, a_put1_1, a_look, a_lkK_0, a_lkK_1, a_lkK_2, a_ixV, a_ixK_0, a_ixK_1, a_ixK_2, a_lenV, a_truV, a_len_0, a_len_1, a_len_2, a_len_3, a_len_4, a_it, a_rg1, a_rgL, a_en, a_zp, a_itK_0, a_itK_1, a_itK_2, a_itE_0, a_itE_1, a_comp, a_compK_0, a_compK_1, a_isi, a_gI_0, a_gI_1, a_gI_2, List.getElem?_cons_zero, List.getElem?_cons_succ, List.set_cons_zero, List.set_cons_succ, Option.bind_some, Option.map_some, f_nil, f_cons, f_some, f_nx, f_ct, f_bk, f_rt, f_ex, a_putV, a_pv0, a_pv1, a_put, a_sp0, a_sp1, a_sp2, a_sp3, a_sp4, a_app, a_sa1, a_sa2, a_aug, a_au1, a_au2, a_au3, gEq_int, gNe_int, ct_rf, ct_own, if_true, if_false, Bool.false_eq_true, a_try, a_tryK_0, a_tryK_1, a_tryK_2, a_tryH_0, a_tryH_1, a_tryK2_0, a_tryK2_1, a_hdS_0, a_hdS_1, a_compX, a_compKX_0, a_fld, a_meth, a_prop, a_propK, a_propE, a_make, a_makeK, a_makeE, a_putF, a_pfK, a_lkv, a_lkvK, a_dct1, a_dct1K, a_dct1K2, a_dct2, a_key, a_putK, a_pk0, a_pk1, a_pk2, a_rg2, a_rg2K, a_rg2K2, a_oL, e, b, e2]
    rfl
  · have b0 : ((w : Int) == 0) = false := eqn w 0 w0
    obtain ⟨t, d2, e2, hd2, ht⟩ := take_nat d1 3 hd1 (by decide) (by decide)
    have e2 : fn__law_take [d1, .int 3] = .ret (.int (t : Int)) [d2] := e2
    obtain ⟨ls, d3, e3, hd3, hl, hlt⟩ := draw_rows (A := setV 2) (el := E__law_rich_members_0) (vs := [2]) (Δ := fun x => [.rf x, .val (.int (v : Int)), .un]) (Γ := fun x z => [.rf x, .val (.int (v : Int)), .val z]) (m := 2 ^ v) (n := 2 + t) (fun _ => rfl) (fun _ _ => rfl) (fun _ _ _ => rfl) (by omega) (fun s x hs hx => by
      obtain ⟨k, x', ek, hx', hk⟩ := take_nat x (2 ^ v) hx (Nat.pow_pos (by decide)) (by omega)
      refine ⟨k, x', ?_, hx', hk⟩
      simp -implicitDefEqProofs only [E__law_rich_members_0, a_seq, a_expr, a_ret, a_retO, a_set, a_setO, a_if, a_unp, a_for, a_nil, a_retN, a_then_0, a_then_1, a_then_2, a_then_3, a_sK_0, a_sK_1, a_ifS_0, a_ifS_1, a_ifS_2, a_k_0, a_k_1, a_k_2, a_k_3, a_k_4, a_k_5, a_k_6, a_setV, a_setOd, a_setVK_0, a_setVK_1, a_setVK_2, a_setVK_3, a_setVK_4, a_setVK_5, a_c, a_var, a_varK_0, a_varK_1, a_bin, a_binK_0, a_binK_1, a_binK_2, a_binK_3, a_oE_0, a_oE_1, a_un, a_unK_0, a_unK_1, a_unK_2, a_unK_3, a_test, a_tru, a_not, a_asB_0, a_asB_1, a_asB_2, a_asB_3, a_lst_0, a_lst_1, a_and, a_or, a_andK_0, a_andK_1, a_andK_2, a_andK_3, a_andK_4, a_andK_5, a_dIf, a_tand, a_tor, a_tnot, a_ifK_0, a_ifK_1, a_ifK_2, a_ifK_3, a_ifK_4, a_cons, a_consK_0, a_consK_1, a_consK_2, a_consK_3, a_consK_4, a_refA, a_refK_0, a_refK_1, a_refK_2, a_cb, a_tup, a_dLst, a_vals0, a_vals1, a_vals2, a_vals3, a_vals4, call_eq, callO_eq, a_call1, a_call2, a_call3, a_call4, a_rf0, a_rf1, a_rf2, a_rfK_0, a_rfK_1, a_rfK_2, a_end0_0, a_end0_1, a_end0_2, a_end0_3, a_end1, a_put1_0, a_put1_1, a_look, a_lkK_0, a_lkK_1, a_lkK_2, a_ixV, a_ixK_0, a_ixK_1, a_ixK_2, a_lenV, a_truV, a_len_0, a_len_1, a_len_2, a_len_3, a_len_4, a_it, a_rg1, a_rgL, a_en, a_zp, a_itK_0, a_itK_1, a_itK_2, a_itE_0, a_itE_1, a_comp, a_compK_0, a_compK_1, a_isi, a_gI_0, a_gI_1, a_gI_2, List.getElem?_cons_zero, List.getElem?_cons_succ, List.set_cons_zero, List.set_cons_succ, Option.bind_some, Option.map_some, f_nil, f_cons, f_some, f_nx, f_ct, f_bk, f_rt, f_ex, a_putV, a_pv0, a_pv1, a_put, a_sp0, a_sp1, a_sp2, a_sp3, a_sp4, a_app, a_sa1, a_sa2, a_aug, a_au1, a_au2, a_au3, gEq_int, gNe_int, ct_rf, ct_own, if_true, if_false, Bool.false_eq_true, a_try, a_tryK_0, a_tryK_1, a_tryK_2, a_tryH_0, a_tryH_1, a_tryK2_0, a_tryK2_1, a_hdS_0, a_hdS_1, a_compX, a_compKX_0, a_fld, a_meth, a_prop, a_propK, a_propE, a_make, a_makeK, a_makeE, a_putF, a_pfK, a_lkv, a_lkvK, a_dct1, a_dct1K, a_dct1K2, a_dct2, a_key, a_putK, a_pk0, a_pk1, a_pk2, a_rg2, a_rg2K, a_rg2K2, a_oL, cv, shl1, ek]) d2 hd2
    have a1 : gAdd (.int 2) (.int (t : Int)) = some (.int ((2 + t : Nat) : Int)) := addn 2 t
    have i1 := itF (2 + t) (by omega)
    have l0 : gLstD [.int 0] = some (.lst [.int 0]) := if_pos (le_line (by show 1 ≤ 4096; decide))
    have g0 : gAdd (.lst [.int 0]) (.lst (rowD ls)) = some (.lst (rowD (0 :: ls))) := by
      show (if ([.int 0] : List D).length + (rowD ls).length ≤ sizeLine then some (D.lst ([.int 0] ++ rowD ls)) else none) = _
      rw [if_pos (by rw [row_len, sizeLine_eq]; show 1 + ls.length ≤ _; omega)]; rfl
    have m := met_ev v h2 (0 :: ls)
    refine ⟨met v (0 :: ls), d3, ?_, hd3, met_fam v _⟩
    simp -implicitDefEqProofs only [F__law_rich_members, a_seq, a_expr, a_ret, a_retO, a_set, a_setO, a_if, a_unp, a_for, a_nil, a_retN, a_then_0, a_then_1, a_then_2, a_then_3, a_sK_0, a_sK_1, a_ifS_0, a_ifS_1, a_ifS_2, a_k_0, a_k_1, a_k_2, a_k_3, a_k_4, a_k_5, a_k_6, a_setV, a_setOd, a_setVK_0, a_setVK_1, a_setVK_2, a_setVK_3, a_setVK_4, a_setVK_5, a_c, a_var, a_varK_0, a_varK_1, a_bin, a_binK_0, a_binK_1, a_binK_2, a_binK_3, a_oE_0, a_oE_1, a_un, a_unK_0, a_unK_1, a_unK_2, a_unK_3, a_test, a_tru, a_not, a_asB_0, a_asB_1, a_asB_2, a_asB_3, a_lst_0, a_lst_1, a_and, a_or, a_andK_0, a_andK_1, a_andK_2, a_andK_3, a_andK_4, a_andK_5, a_dIf, a_tand, a_tor, a_tnot, a_ifK_0, a_ifK_1, a_ifK_2, a_ifK_3, a_ifK_4, a_cons, a_consK_0, a_consK_1, a_consK_2, a_consK_3, a_consK_4, a_refA, a_refK_0, a_refK_1, a_refK_2, a_cb, a_tup, a_dLst, a_vals0, a_vals1, a_vals2, a_vals3, a_vals4, call_eq, callO_eq, a_call1, a_call2, a_call3, a_call4, a_rf0, a_rf1, a_rf2, a_rfK_0, a_rfK_1, a_rfK_2, a_end0_0, a_end0_1, a_end0_2, a_end0_3, a_end1, a_put1_0, a_put1_1, a_look, a_lkK_0, a_lkK_1, a_lkK_2, a_ixV, a_ixK_0, a_ixK_1, a_ixK_2, a_lenV, a_truV, a_len_0, a_len_1, a_len_2, a_len_3, a_len_4, a_it, a_rg1, a_rgL, a_en, a_zp, a_itK_0, a_itK_1, a_itK_2, a_itE_0, a_itE_1, a_comp, a_compK_0, a_compK_1, a_isi, a_gI_0, a_gI_1, a_gI_2, List.getElem?_cons_zero, List.getElem?_cons_succ, List.set_cons_zero, List.set_cons_succ, Option.bind_some, Option.map_some, f_nil, f_cons, f_some, f_nx, f_ct, f_bk, f_rt, f_ex, a_putV, a_pv0, a_pv1, a_put, a_sp0, a_sp1, a_sp2, a_sp3, a_sp4, a_app, a_sa1, a_sa2, a_aug, a_au1, a_au2, a_au3, gEq_int, gNe_int, ct_rf, ct_own, if_true, if_false, Bool.false_eq_true, a_try, a_tryK_0, a_tryK_1, a_tryK_2, a_tryH_0, a_tryH_1, a_tryK2_0, a_tryK2_1, a_hdS_0, a_hdS_1, a_compX, a_compKX_0, a_fld, a_meth, a_prop, a_propK, a_propE, a_make, a_makeK, a_makeE, a_putF, a_pfK, a_lkv, a_lkvK, a_dct1, a_dct1K, a_dct1K2, a_dct2, a_key, a_putK, a_pk0, a_pk1, a_pk2, a_rg2, a_rg2K, a_rg2K2, a_oL, e, b0, e2, a1, i1, l0, e3, g0, m]
    rfl
end LW

set_option maxRecDepth 100000
set_option maxHeartbeats 2000000
namespace LW
open PySem PySem.Spec PyProof.Rows L2 DL
theorem for_or {A : D → DEnv → Option DEnv} {f : DS} (I : DEnv → Prop) (R : D → DEnv → Prop) : ∀ (ds : List D) (δ : DEnv), I δ →
    (∀ d ∈ ds, ∀ δ, I δ → ∃ δ1, A d δ = some δ1 ∧ ((∃ δ2, f δ1 = .nx δ2 ∧ I δ2) ∨ ∃ x δ2, f δ1 = .rt x δ2 ∧ R x δ2)) →
    (∃ δ', forL A f ds δ = .nx δ' ∧ I δ') ∨ ∃ x δ', forL A f ds δ = .rt x δ' ∧ R x δ'
  | [], δ, h, _ => .inl ⟨δ, rfl, h⟩
  | d :: ds, δ, h, st => by
    obtain ⟨δ1, e1, h1⟩ := st d List.mem_cons_self δ h
    rcases h1 with ⟨δ2, e2, i2⟩ | ⟨x, δ2, e2, r2⟩
    · rcases for_or I R ds δ2 i2 fun d hd => st d (List.mem_cons_of_mem _ hd) with ⟨δ', e3, i3⟩ | ⟨x, δ', e3, r3⟩
      · exact .inl ⟨δ', by rw [f_cons, e1]; show fl2 A f ds (f δ1) = _; rw [e2]; exact e3, i3⟩
      · exact .inr ⟨x, δ', by rw [f_cons, e1]; show fl2 A f ds (f δ1) = _; rw [e2]; exact e3, r3⟩
    · exact .inr ⟨x, δ2, by rw [f_cons, e1]; show fl2 A f ds (f δ1) = _; rw [e2]; rfl, r2⟩
theorem mem_rowD {r : List Nat} {d : D} (h : d ∈ rowD r) : ∃ k ∈ r, d = .int ((k : Nat) : Int) := by
  obtain ⟨k, hk, rfl⟩ := List.mem_map.mp h
  exact ⟨k, hk, rfl⟩
theorem map_rowD (r : List Nat) (g : D → D) (f : Nat → Nat) (h : ∀ k : Nat, g (.int (k : Int)) = .int ((f k : Nat) : Int)) : (rowD r).map g = rowD (r.map f) := by
  unfold rowD
  rw [List.map_map, List.map_map]
  exact List.map_congr_left fun k _ => h k
def ofN : (Nat → Nat) → D → D
  | f, .int i => .int ((f i.toNat : Nat) : Int)
  | _, d => d
theorem ofN_int (f : Nat → Nat) (k : Nat) : ofN f (.int (k : Int)) = .int ((f k : Nat) : Int) := by
  show D.int ((f ((k : Int)).toNat : Nat) : Int) = _
  rw [Int.toNat_natCast]
theorem rounds_ev {v : Nat} {ms : List Nat} (F : Fam v ms) (h2 : v ≤ 6) : fn__law_rounds [.lst (rowD ms), .int (v : Int)] = .ret (.lst (rowD ((List.range (2 ^ v)).map (Rd v ms)))) [] := by
  have hp := pow_le h2
  have cv : cPow 1 (v : Int) = true := cpw (by omega)
  have e := comp_pure (A := setV 2) (el := E__law_rounds_0) (vs := [2]) (δ := [.val (.lst (rowD ms)), .val (.int (v : Int)), .un]) (Γ := fun z => [.val (.lst (rowD ms)), .val (.int (v : Int)), .val z]) (ofN (Rd v ms)) (rgF 0 (2 ^ v)) rfl (fun _ => rfl) (fun _ => rfl) (by rw [rgF_len]; omega) (fun d hd => by
    obtain ⟨k, _, rfl⟩ := mem_rgF hd
    have e := rounded_ev F k
    rw [ofN_int]
    simp -implicitDefEqProofs only [E__law_rounds_0, a_seq, a_expr, a_ret, a_retO, a_set, a_setO, a_if, a_unp, a_for, a_nil, a_retN, a_then_0, a_then_1, a_then_2, a_then_3, a_sK_0, a_sK_1, a_ifS_0, a_ifS_1, a_ifS_2, a_k_0, a_k_1, a_k_2, a_k_3, a_k_4, a_k_5, a_k_6, a_setV, a_setOd, a_setVK_0, a_setVK_1, a_setVK_2, a_setVK_3, a_setVK_4, a_setVK_5, a_c, a_var, a_varK_0, a_varK_1, a_bin, a_binK_0, a_binK_1, a_binK_2, a_binK_3, a_oE_0, a_oE_1, a_un, a_unK_0, a_unK_1, a_unK_2, a_unK_3, a_test, a_tru, a_not, a_asB_0, a_asB_1, a_asB_2, a_asB_3, a_lst_0, a_lst_1, a_and, a_or, a_andK_0, a_andK_1, a_andK_2, a_andK_3, a_andK_4, a_andK_5, a_dIf, a_tand, a_tor, a_tnot, a_ifK_0, a_ifK_1, a_ifK_2, a_ifK_3, a_ifK_4, a_cons, a_consK_0, a_consK_1, a_consK_2, a_consK_3, a_consK_4, a_refA, a_refK_0, a_refK_1, a_refK_2, a_cb, a_tup, a_dLst, a_vals0, a_vals1, a_vals2, a_vals3, a_vals4, call_eq, callO_eq, a_call1, a_call2, a_call3, a_call4, a_rf0, a_rf1, a_rf2, a_rfK_0, a_rfK_1, a_rfK_2, a_end0_0, a_end0_1, a_end0_2, a_end0_3, a_end1, a_put1_0, a_put1_1, a_look, a_lkK_0, a_lkK_1, a_lkK_2, a_ixV, a_ixK_0, a_ixK_1, a_ixK_2, a_lenV, a_truV, a_len_0, a_len_1, a_len_2, a_len_3, a_len_4, a_it, a_rg1, a_rgL, a_en, a_zp, a_itK_0, a_itK_1, a_itK_2, a_itE_0, a_itE_1, a_comp, a_compK_0, a_compK_1, a_isi, a_gI_0, a_gI_1, a_gI_2, List.getElem?_cons_zero, List.getElem?_cons_succ, List.set_cons_zero, List.set_cons_succ, Option.bind_some, Option.map_some, f_nil, f_cons, f_some, f_nx, f_ct, f_bk, f_rt, f_ex, a_putV, a_pv0, a_pv1, a_put, a_sp0, a_sp1, a_sp2, a_sp3, a_sp4, a_app, a_sa1, a_sa2, a_aug, a_au1, a_au2, a_au3, gEq_int, gNe_int, ct_rf, ct_own, if_true, if_false, Bool.false_eq_true, a_try, a_tryK_0, a_tryK_1, a_tryK_2, a_tryH_0, a_tryH_1, a_tryK2_0, a_tryK2_1, a_hdS_0, a_hdS_1, a_compX, a_compKX_0, a_fld, a_meth, a_prop, a_propK, a_propE, a_make, a_makeK, a_makeE, a_putF, a_pfK, a_lkv, a_lkvK, a_dct1, a_dct1K, a_dct1K2, a_dct2, a_key, a_putK, a_pk0, a_pk1, a_pk2, a_rg2, a_rg2K, a_rg2K2, a_oL, e])
  rw [rowD_range, map_rowD _ _ _ (ofN_int _)] at e
  have i1 := itF (2 ^ v) (by omega)
  rw [rowD_range] at i1
  rw [o__law_rounds]
  simp -implicitDefEqProofs only [F__law_rounds, a_seq, a_expr, a_ret, a_retO, a_set, a_setO, a_if, a_unp, a_for, a_nil, a_retN, a_then_0, a_then_1, a_then_2, a_then_3, a_sK_0, a_sK_1, a_ifS_0, a_ifS_1, a_ifS_2, a_k_0, a_k_1, a_k_2, a_k_3, a_k_4, a_k_5, a_k_6, a_setV, a_setOd, a_setVK_0, a_setVK_1, a_setVK_2, a_setVK_3, a_setVK_4, a_setVK_5, a_c, a_var, a_varK_0, a_varK_1, a_bin, a_binK_0, a_binK_1, a_binK_2, a_binK_3, a_oE_0, a_oE_1, a_un, a_unK_0, a_unK_1, a_unK_2, a_unK_3, a_test, a_tru, a_not, a_asB_0, a_asB_1, a_asB_2, a_asB_3, a_lst_0, a_lst_1, a_and, a_or, a_andK_0, a_andK_1, a_andK_2, a_andK_3, a_andK_4, a_andK_5, a_dIf, a_tand, a_tor, a_tnot, a_ifK_0, a_ifK_1, a_ifK_2, a_ifK_3, a_ifK_4, a_cons, a_consK_0, a_consK_1, a_consK_2, a_consK_3, a_consK_4, a_refA, a_refK_0, a_refK_1, a_refK_2, a_cb, a_tup, a_dLst, a_vals0, a_vals1, a_vals2, a_vals3, a_vals4, call_eq, callO_eq, a_call1, a_call2, a_call3, a_call4, a_rf0, a_rf1, a_rf2, a_rfK_0, a_rfK_1, a_rfK_2, a_end0_0, a_end0_1, a_end0_2, a_end0_3, a_end1, a_put1_0, a_put1_1, a_look, a_lkK_0, a_lkK_1, a_lkK_2, a_ixV, a_ixK_0, a_ixK_1, a_ixK_2, a_lenV, a_truV, a_len_0, a_len_1, a_len_2, a_len_3, a_len_4, a_it, a_rg1, a_rgL, a_en, a_zp, a_itK_0, a_itK_1, a_itK_2, a_itE_0, a_itE_1, a_comp, a_compK_0, a_compK_1, a_isi, a_gI_0, a_gI_1, a_gI_2, List.getElem?_cons_zero, List.getElem?_cons_succ, List.set_cons_zero, List.set_cons_succ, Option.bind_some, Option.map_some, f_nil, f_cons, f_some, f_nx, f_ct, f_bk, f_rt, f_ex, a_putV, a_pv0, a_pv1, a_put, a_sp0, a_sp1, a_sp2, a_sp3, a_sp4, a_app, a_sa1, a_sa2, a_aug, a_au1, a_au2, a_au3, gEq_int, gNe_int, ct_rf, ct_own, if_true, if_false, Bool.false_eq_true, a_try, a_tryK_0, a_tryK_1, a_tryK_2, a_tryH_0, a_tryH_1, a_tryK2_0, a_tryK2_1, a_hdS_0, a_hdS_1, a_compX, a_compKX_0, a_fld, a_meth, a_prop, a_propK, a_propE, a_make, a_makeK, a_makeE, a_putF, a_pfK, a_lkv, a_lkvK, a_dct1, a_dct1K, a_dct1K2, a_dct2, a_key, a_putK, a_pk0, a_pk1, a_pk2, a_rg2, a_rg2K, a_rg2K2, a_oL, cv, shl1, i1, e]
  rfl
theorem ix_range {n k : Nat} (f : Nat → Nat) (h : k < n) : idxD (.lst (rowD ((List.range n).map f))) (.int (k : Int)) = some (.int ((f k : Nat) : Int)) := by
  refine ix_row false (all := (List.range n).map f) ?_
  rw [List.getElem?_map, List.getElem?_range h]; rfl
theorem alike_ev {v : Nat} {ms : List Nat} (F : Fam v ms) (h2 : v ≤ 6) {r : List Nat} (hr : Good v r) {l : Nat} (hl : l < 2 ^ v) :
    fn__law_alike [.lst (rowD ((List.range (2 ^ v)).map (Rd v ms))), .lst (rowD r), .int (l : Int)] = .ret (.bl (decide (Rd v ms (Nx r l) = Rd v ms (Nx r (Rd v ms l))))) [] := by
  have hr63 : r.length ≤ 63 := by have := hr.1; omega
  have n1 : fn__law_next [.lst (rowD r), .int (l : Int)] = .ret (.int (Nx r l : Nat)) [] := lnext_ev r l hr63
  have n2 : fn__law_next [.lst (rowD r), .int (Rd v ms l : Nat)] = .ret (.int (Nx r (Rd v ms l) : Nat)) [] := lnext_ev r _ hr63
  have i0 := ix_range (n := 2 ^ v) (Rd v ms) hl
  have i1 := ix_range (n := 2 ^ v) (Rd v ms) (nx_lt (r := r) (l := l) hr.2)
  have i2 := ix_range (n := 2 ^ v) (Rd v ms) (nx_lt (r := r) (l := Rd v ms l) hr.2)
  have b : ∀ a c : Nat, (((a : Int)) == (c : Int)) = decide (a = c) := fun a c => by
    rw [Bool.eq_iff_iff]; simp only [beq_iff_eq, decide_eq_true_eq]; omega
  rw [o__law_alike]
  simp -implicitDefEqProofs only [F__law_alike, a_seq, a_expr, a_ret, a_retO, a_set, a_setO, a_if, a_unp, a_for, a_nil, a_retN, a_then_0, a_then_1, a_then_2, a_then_3, a_sK_0, a_sK_1, a_ifS_0, a_ifS_1, a_ifS_2, a_k_0, a_k_1, a_k_2, a_k_3, a_k_4, a_k_5, a_k_6, a_setV, a_setOd, a_setVK_0, a_setVK_1, a_setVK_2, a_setVK_3, a_setVK_4, a_setVK_5, a_c, a_var, a_varK_0, a_varK_1, a_bin, a_binK_0, a_binK_1, a_binK_2, a_binK_3, a_oE_0, a_oE_1, a_un, a_unK_0, a_unK_1, a_unK_2, a_unK_3, a_test, a_tru, a_not, a_asB_0, a_asB_1, a_asB_2, a_asB_3, a_lst_0, a_lst_1, a_and, a_or, a_andK_0, a_andK_1, a_andK_2, a_andK_3, a_andK_4, a_andK_5, a_dIf, a_tand, a_tor, a_tnot, a_ifK_0, a_ifK_1, a_ifK_2, a_ifK_3, a_ifK_4, a_cons, a_consK_0, a_consK_1, a_consK_2, a_consK_3, a_consK_4, a_refA, a_refK_0, a_refK_1, a_refK_2, a_cb, a_tup, a_dLst, a_vals0, a_vals1, a_vals2, a_vals3, a_vals4, call_eq, callO_eq, a_call1, a_call2, a_call3, a_call4, a_rf0, a_rf1, a_rf2, a_rfK_0, a_rfK_1, a_rfK_2, a_end0_0, a_end0_1, a_end0_2, a_end0_3, a_end1, a_put1_0, a_put1_1, a_look, a_lkK_0, a_lkK_1, a_lkK_2, a_ixV, a_ixK_0, a_ixK_1, a_ixK_2, a_lenV, a_truV, a_len_0, a_len_1, a_len_2, a_len_3, a_len_4, a_it, a_rg1, a_rgL, a_en, a_zp, a_itK_0, a_itK_1, a_itK_2, a_itE_0, a_itE_1, a_comp, a_compK_0, a_compK_1, a_isi, a_gI_0, a_gI_1, a_gI_2, List.getElem?_cons_zero, List.getElem?_cons_succ, List.set_cons_zero, List.set_cons_succ, Option.bind_some, Option.map_some, f_nil, f_cons, f_some, f_nx, f_ct, f_bk, f_rt, f_ex, a_putV, a_pv0, a_pv1, a_put, a_sp0, a_sp1, a_sp2, a_sp3, a_sp4, a_app, a_sa1, a_sa2, a_aug, a_au1, a_au2, a_au3, gEq_int, gNe_int, ct_rf, ct_own, if_true, if_false, Bool.false_eq_true, a_try, a_tryK_0, a_tryK_1, a_tryK_2, a_tryH_0, a_tryH_1, a_tryK2_0, a_tryK2_1, a_hdS_0, a_hdS_1, a_compX, a_compKX_0, a_fld, a_meth, a_prop, a_propK, a_propE, a_make, a_makeK, a_makeE, a_putF, a_pfK, a_lkv, a_lkvK, a_dct1, a_dct1K, a_dct1K2, a_dct2, a_key, a_putK, a_pk0, a_pk1, a_pk2, a_rg2, a_rg2K, a_rg2K2, a_oL, n1, i0, n2, i1, i2, b]
  rfl
theorem gAdd_rows (a b : List Nat) (h : a.length + b.length ≤ 8192) : gAdd (.lst (rowD a)) (.lst (rowD b)) = some (.lst (rowD (a ++ b))) := by
  show (if (rowD a).length + (rowD b).length ≤ sizeLine then some (D.lst (rowD a ++ rowD b)) else none) = _
  rw [if_pos (by rw [row_len, row_len, sizeLine_eq]; omega)]
  unfold rowD
  rw [List.map_append]
theorem back_comp (v : Nat) {ms : List Nat} (hm : ms.length ≤ 64) (rows s3 : D) (s6 : Sl) (acc r : List Nat) (hr : r.length ≤ 63) (s7 : Sl) (h6 : Pv s6) (h7 : Pv s7) :
    compL (setV 7) dYes E__law_refined_0 [7] (rowD ms) [.val (.int (v : Int)), .val (.lst (rowD ms)), .val rows, .val s3, .val (.lst (rowD acc)), .val (.lst (rowD r)), s6, s7] [] = .ok (.lst (rowD (ms.map (Bk r)))) [.val (.int (v : Int)), .val (.lst (rowD ms)), .val rows, .val s3, .val (.lst (rowD acc)), .val (.lst (rowD r)), s6, s7] := by
  have st : ∀ (s6 s7 : Sl), (s6 = .un ∨ ∃ d, s6 = .val d) → (s7 = .un ∨ ∃ d, s7 = .val d) → compL (setV 7) dYes E__law_refined_0 [7] (rowD ms) [.val (.int (v : Int)), .val (.lst (rowD ms)), .val rows, .val s3, .val (.lst (rowD acc)), .val (.lst (rowD r)), s6, s7] [] = .ok (.lst ((rowD ms).map (ofN (Bk r)))) [.val (.int (v : Int)), .val (.lst (rowD ms)), .val rows, .val s3, .val (.lst (rowD acc)), .val (.lst (rowD r)), s6, s7] := fun s6 s7 h6 h7 => by
    refine comp_pure (Γ := fun z => [.val (.int (v : Int)), .val (.lst (rowD ms)), .val rows, .val s3, .val (.lst (rowD acc)), .val (.lst (rowD r)), s6, .val z]) (ofN (Bk r)) (rowD ms) ?_ (fun _ => ?_) (fun _ => ?_) (by rw [row_len]; omega) fun d hd => ?_
    · rcases h6 with rfl | ⟨d6, rfl⟩ <;> rcases h7 with rfl | ⟨d7, rfl⟩ <;> rfl
    · rcases h6 with rfl | ⟨d6, rfl⟩ <;> rcases h7 with rfl | ⟨d7, rfl⟩ <;> rfl
    · rcases h6 with rfl | ⟨d6, rfl⟩ <;> rcases h7 with rfl | ⟨d7, rfl⟩ <;> rfl
    · obtain ⟨k, _, rfl⟩ := mem_rowD hd
      have e : fn__law_back [.lst (rowD r), .int (k : Int)] = .ret (.int (Bk r k : Nat)) [] := lback_ev r k hr
      rw [ofN_int]
      simp -implicitDefEqProofs only [E__law_refined_0, a_seq, a_expr, a_ret, a_retO, a_set, a_setO, a_if, a_unp, a_for, a_nil, a_retN, a_then_0, a_then_1, a_then_2, a_then_3, a_sK_0, a_sK_1, a_ifS_0, a_ifS_1, a_ifS_2, a_k_0, a_k_1, a_k_2, a_k_3, a_k_4, a_k_5, a_k_6, a_setV, a_setOd, a_setVK_0, a_setVK_1, a_setVK_2, a_setVK_3, a_setVK_4, a_setVK_5, a_c, a_var, a_varK_0, a_varK_1, a_bin, a_binK_0, a_binK_1, a_binK_2, a_binK_3, a_oE_0, a_oE_1, a_un, a_unK_0, a_unK_1, a_unK_2, a_unK_3, a_test, a_tru, a_not, a_asB_0, a_asB_1, a_asB_2, a_asB_3, a_lst_0, a_lst_1, a_and, a_or, a_andK_0, a_andK_1, a_andK_2, a_andK_3, a_andK_4, a_andK_5, a_dIf, a_tand, a_tor, a_tnot, a_ifK_0, a_ifK_1, a_ifK_2, a_ifK_3, a_ifK_4, a_cons, a_consK_0, a_consK_1, a_consK_2, a_consK_3, a_consK_4, a_refA, a_refK_0, a_refK_1, a_refK_2, a_cb, a_tup, a_dLst, a_vals0, a_vals1, a_vals2, a_vals3, a_vals4, call_eq, callO_eq, a_call1, a_call2, a_call3, a_call4, a_rf0, a_rf1, a_rf2, a_rfK_0, a_rfK_1, a_rfK_2, a_end0_0, a_end0_1, a_end0_2, a_end0_3, a_end1, a_put1_0, a_put1_1, a_look, a_lkK_0, a_lkK_1, a_lkK_2, a_ixV, a_ixK_0, a_ixK_1, a_ixK_2, a_lenV, a_truV, a_len_0, a_len_1, a_len_2, a_len_3, a_len_4, a_it, a_rg1, a_rgL, a_en, a_zp, a_itK_0, a_itK_1, a_itK_2, a_itE_0, a_itE_1, a_comp, a_compK_0, a_compK_1, a_isi, a_gI_0, a_gI_1, a_gI_2, List.getElem?_cons_zero, List.getElem?_cons_succ, List.set_cons_zero, List.set_cons_succ, Option.bind_some, Option.map_some, f_nil, f_cons, f_some, f_nx, f_ct, f_bk, f_rt, f_ex, a_putV, a_pv0, a_pv1, a_put, a_sp0, a_sp1, a_sp2, a_sp3, a_sp4, a_app, a_sa1, a_sa2, a_aug, a_au1, a_au2, a_au3, gEq_int, gNe_int, ct_rf, ct_own, if_true, if_false, Bool.false_eq_true, a_try, a_tryK_0, a_tryK_1, a_tryK_2, a_tryH_0, a_tryH_1, a_tryK2_0, a_tryK2_1, a_hdS_0, a_hdS_1, a_compX, a_compKX_0, a_fld, a_meth, a_prop, a_propK, a_propE, a_make, a_makeK, a_makeE, a_putF, a_pfK, a_lkv, a_lkvK, a_dct1, a_dct1K, a_dct1K2, a_dct2, a_key, a_putK, a_pk0, a_pk1, a_pk2, a_rg2, a_rg2K, a_rg2K2, a_oL, e]
  rw [st s6 s7 h6 h7, map_rowD _ _ _ (ofN_int _)]
theorem ref_in (v : Nat) {ms : List Nat} (hm : ms.length ≤ 64) (rows s3 : D) (s6 : Sl) (h6 : Pv s6) : ∀ (rs : List (List Nat)) (acc : List Nat) (s5 s7 : Sl), (∀ r ∈ rs, r.length ≤ 63) → acc.length + 64 * rs.length ≤ 4096 → Pv s5 → Pv s7 → ∃ acc' s5' s7', Pv s5' ∧ Pv s7' ∧
    forL (setV 5) B__law_refined_0 (rs.map fun r => .lst (rowD r)) [.val (.int (v : Int)), .val (.lst (rowD ms)), .val rows, .val s3, .val (.lst (rowD acc)), s5, s6, s7] = .nx [.val (.int (v : Int)), .val (.lst (rowD ms)), .val rows, .val s3, .val (.lst (rowD acc')), s5', s6, s7']
  | [], acc, s5, s7, _, _, h5, h7 => ⟨acc, s5, s7, h5, h7, rfl⟩
  | r :: rs, acc, s5, s7, hr, hl, h5, h7 => by
    have hl2 : acc.length + 64 * (rs.length + 1) ≤ 4096 := hl
    have e := back_comp v hm rows s3 s6 acc r (hr r List.mem_cons_self) s7 h6 h7
    obtain ⟨acc', s5', s7', h5', h7', e2⟩ := ref_in v hm rows s3 s6 h6 rs (acc ++ ms.map (Bk r)) (.val (.lst (rowD r))) s7 (fun q hq => hr q (List.mem_cons_of_mem _ hq)) (by rw [List.length_append, List.length_map]; omega) (.inr ⟨_, rfl⟩) h7
    refine ⟨acc', s5', s7', h5', h7', ?_⟩
    rw [← e2]
    show forL _ _ (.lst (rowD r) :: _) _ = _
    have g := gAdd_rows acc (ms.map (Bk r)) (by rw [List.length_map]; omega)
    simp -implicitDefEqProofs only [a_seq, a_expr, a_ret, a_retO, a_set, a_setO, a_if, a_unp, a_for, a_nil, a_retN, a_then_0, a_then_1, a_then_2, a_then_3, a_sK_0, a_sK_1, a_ifS_0, a_ifS_1, a_ifS_2, a_k_0, a_k_1, a_k_2, a_k_3, a_k_4, a_k_5, a_k_6, a_setV, a_setOd, a_setVK_0, a_setVK_1, a_setVK_2, a_setVK_3, a_setVK_4, a_setVK_5, a_c, a_var, a_varK_0, a_varK_1, a_bin, a_binK_0, a_binK_1, a_binK_2, a_binK_3, a_oE_0, a_oE_1, a_un, a_unK_0, a_unK_1, a_unK_2, a_unK_3, a_test, a_tru, a_not, a_asB_0, a_asB_1, a_asB_2, a_asB_3, a_lst_0, a_lst_1, a_and, a_or, a_andK_0, a_andK_1, a_andK_2, a_andK_3, a_andK_4, a_andK_5, a_dIf, a_tand, a_tor, a_tnot, a_ifK_0, a_ifK_1, a_ifK_2, a_ifK_3, a_ifK_4, a_cons, a_consK_0, a_consK_1, a_consK_2, a_consK_3, a_consK_4, a_refA, a_refK_0, a_refK_1, a_refK_2, a_cb, a_tup, a_dLst, a_vals0, a_vals1, a_vals2, a_vals3, a_vals4, call_eq, callO_eq, a_call1, a_call2, a_call3, a_call4, a_rf0, a_rf1, a_rf2, a_rfK_0, a_rfK_1, a_rfK_2, a_end0_0, a_end0_1, a_end0_2, a_end0_3, a_end1, a_put1_0, a_put1_1, a_look, a_lkK_0, a_lkK_1, a_lkK_2, a_ixV, a_ixK_0, a_ixK_1, a_ixK_2, a_lenV, a_truV, a_len_0, a_len_1, a_len_2, a_len_3, a_len_4, a_it, a_rg1, a_rgL, a_en, a_zp, a_itK_0, a_itK_1, a_itK_2, a_itE_0, a_itE_1, a_comp, a_compK_0, a_compK_1, a_isi, a_gI_0, a_gI_1, a_gI_2, List.getElem?_cons_zero, List.getElem?_cons_succ, List.set_cons_zero, List.set_cons_succ, Option.bind_some, Option.map_some, f_nil, f_cons, f_some, f_nx, f_ct, f_bk, f_rt, f_ex, a_putV, a_pv0, a_pv1, a_put, a_sp0, a_sp1, a_sp2, a_sp3, a_sp4, a_app, a_sa1, a_sa2, a_aug, a_au1, a_au2, a_au3, gEq_int, gNe_int, ct_rf, ct_own, if_true, if_false, Bool.false_eq_true, a_try, a_tryK_0, a_tryK_1, a_tryK_2, a_tryH_0, a_tryH_1, a_tryK2_0, a_tryK2_1, a_hdS_0, a_hdS_1, a_compX, a_compKX_0, a_fld, a_meth, a_prop, a_propK, a_propE, a_make, a_makeK, a_makeE, a_putF, a_pfK, a_lkv, a_lkvK, a_dct1, a_dct1K, a_dct1K2, a_dct2, a_key, a_putK, a_pk0, a_pk1, a_pk2, a_rg2, a_rg2K, a_rg2K2, a_oL, set_nr (pv_nr h5), B__law_refined_0, it_lst, e, g]
def RefI (v : Nat) (rows : D) (δ : DEnv) : Prop := ∃ ms s3 s4 s5 s6 s7, Fam v ms ∧ Pv s3 ∧ Pv s4 ∧ Pv s5 ∧ Pv s6 ∧ Pv s7 ∧ δ = [.val (.int (v : Int)), .val (.lst (rowD ms)), .val rows, s3, s4, s5, s6, s7]
theorem refined_ev {v : Nat} {ms : List Nat} (F : Fam v ms) (h2 : v ≤ 6) (rs : List (List Nat)) (hr : ∀ r ∈ rs, r.length ≤ 63) (hl : rs.length ≤ 20) : ∃ ms', fn__law_refined [.int (v : Int), .lst (rowD ms), .lst (rs.map fun r => .lst (rowD r))] = .ret (.lst (rowD ms')) [] ∧ Fam v ms' := by
  have hp := pow_le h2
  have it64 : itK1 rg1 (.ok (.int 64) [.val (.int (v : Int)), .val (.lst (rowD ms)), .val (.lst (rs.map fun r => .lst (rowD r))), .un, .un, .un, .un, .un]) = .ok (rgF 0 64) _ := itF 64 (by decide) _
  have key := for_or (A := setV 3) (f := B__law_refined_1) (RefI v (.lst (rs.map fun r => .lst (rowD r)))) (fun x δ => ∃ ms', x = .lst (rowD ms') ∧ Fam v ms' ∧ endR [false, false, false] δ = some []) (rgF 0 64) [.val (.int (v : Int)), .val (.lst (rowD ms)), .val (.lst (rs.map fun r => .lst (rowD r))), .un, .un, .un, .un, .un]
    ⟨ms, .un, .un, .un, .un, .un, F, .inl rfl, .inl rfl, .inl rfl, .inl rfl, .inl rfl, rfl⟩ fun d hd δ hI => by
      obtain ⟨ms, s3, s4, s5, s6, s7, F, h3, h4, h5, h6, h7, rfl⟩ := hI
      have hm := F.len
      refine ⟨[.val (.int (v : Int)), .val (.lst (rowD ms)), .val (.lst (rs.map fun r => .lst (rowD r))), .val d, s4, s5, s6, s7], by rcases h3 with rfl | ⟨x, rfl⟩ <;> rfl, ?_⟩
      obtain ⟨acc, s5', s7', h5', h7', e⟩ := ref_in (ms := ms) v (by omega) (.lst (rs.map fun r => .lst (rowD r))) d s6 h6 rs ms s5 s7 hr (by omega) h5 h7
      have gl : gList [.lst (rowD ms)] = some (.lst (rowD ms)) := rfl
      have m := met_ev v h2 acc
      by_cases q : met v acc = ms
      · right
        have b : gEq false (.lst (rowD (met v acc))) (.lst (rowD ms)) = some (.bl true) := by rw [gEq_lst, decide_eq_true q]; rfl
        refine ⟨.lst (rowD ms), [.val (.int (v : Int)), .val (.lst (rowD ms)), .val (.lst (rs.map fun r => .lst (rowD r))), .val d, .val (.lst (rowD acc)), s5', .val (.lst (rowD (met v acc))), s7'], ?_, ms, rfl, F, rfl⟩
        simp -implicitDefEqProofs only [B__law_refined_1, a_seq, a_expr, a_ret, a_retO, a_set, a_setO, a_if, a_unp, a_for, a_nil, a_retN, a_then_0, a_then_1, a_then_2, a_then_3, a_sK_0, a_sK_1, a_ifS_0, a_ifS_1, a_ifS_2, a_k_0, a_k_1, a_k_2, a_k_3, a_k_4, a_k_5, a_k_6, a_setV, a_setOd, a_setVK_0, a_setVK_1, a_setVK_2, a_setVK_3, a_setVK_4, a_setVK_5, a_c, a_var, a_varK_0, a_varK_1, a_bin, a_binK_0, a_binK_1, a_binK_2, a_binK_3, a_oE_0, a_oE_1, a_un, a_unK_0, a_unK_1, a_unK_2, a_unK_3, a_test, a_tru, a_not, a_asB_0, a_asB_1, a_asB_2, a_asB_3, a_lst_0, a_lst_1, a_and, a_or, a_andK_0, a_andK_1, a_andK_2, a_andK_3, a_andK_4, a_andK_5, a_dIf, a_tand, a_tor, a_tnot, a_ifK_0, a_ifK_1, a_ifK_2, a_ifK_3, a_ifK_4, a_cons, a_consK_0, a_consK_1, a_consK_2, a_consK_3, a_consK_4, a_refA, a_refK_0, a_refK_1, a_refK_2, a_cb, a_tup, a_dLst, a_vals0, a_vals1, a_vals2, a_vals3, a_vals4, call_eq, callO_eq, a_call1, a_call2, a_call3, a_call4, a_rf0, a_rf1, a_rf2, a_rfK_0, a_rfK_1, a_rfK_2, a_end0_0, a_end0_1, a_end0_2, a_end0_3, a_end1, a_put1_0, a_put1_1, a_look, a_lkK_0, a_lkK_1, a_lkK_2, a_ixV, a_ixK_0, a_ixK_1, a_ixK_2, a_lenV, a_truV, a_len_0, a_len_1, a_len_2, a_len_3, a_len_4, a_it, a_rg1, a_rgL, a_en, a_zp, a_itK_0, a_itK_1, a_itK_2, a_itE_0, a_itE_1, a_comp, a_compK_0, a_compK_1, a_isi, a_gI_0, a_gI_1, a_gI_2, List.getElem?_cons_zero, List.getElem?_cons_succ, List.set_cons_zero, List.set_cons_succ, Option.bind_some, Option.map_some, f_nil, f_cons, f_some, f_nx, f_ct, f_bk, f_rt, f_ex, a_putV, a_pv0, a_pv1, a_put, a_sp0, a_sp1, a_sp2, a_sp3, a_sp4, a_app, a_sa1, a_sa2, a_aug, a_au1, a_au2, a_au3, gEq_int, gNe_int, ct_rf, ct_own, if_true, if_false, Bool.false_eq_true, a_try, a_tryK_0, a_tryK_1, a_tryK_2, a_tryH_0, a_tryH_1, a_tryK2_0, a_tryK2_1, a_hdS_0, a_hdS_1, a_compX, a_compKX_0, a_fld, a_meth, a_prop, a_propK, a_propE, a_make, a_makeK, a_makeE, a_putF, a_pfK, a_lkv, a_lkvK, a_dct1, a_dct1K, a_dct1K2, a_dct2, a_key, a_putK, a_pk0, a_pk1, a_pk2, a_rg2, a_rg2K, a_rg2K2, a_oL, gl, set_nr (pv_nr h4), it_lst, e, m, set_nr (pv_nr h6), b]
      · left
        have b : gEq false (.lst (rowD (met v acc))) (.lst (rowD ms)) = some (.bl false) := by rw [gEq_lst, decide_eq_false q]; rfl
        refine ⟨[.val (.int (v : Int)), .val (.lst (rowD (met v acc))), .val (.lst (rs.map fun r => .lst (rowD r))), .val d, .val (.lst (rowD acc)), s5', .val (.lst (rowD (met v acc))), s7'], ?_, met v acc, _, _, _, _, _, met_fam v acc, .inr ⟨_, rfl⟩, .inr ⟨_, rfl⟩, h5', .inr ⟨_, rfl⟩, h7', rfl⟩
        simp -implicitDefEqProofs only [B__law_refined_1, a_seq, a_expr, a_ret, a_retO, a_set, a_setO, a_if, a_unp, a_for, a_nil, a_retN, a_then_0, a_then_1, a_then_2, a_then_3, a_sK_0, a_sK_1, a_ifS_0, a_ifS_1, a_ifS_2, a_k_0, a_k_1, a_k_2, a_k_3, a_k_4, a_k_5, a_k_6, a_setV, a_setOd, a_setVK_0, a_setVK_1, a_setVK_2, a_setVK_3, a_setVK_4, a_setVK_5, a_c, a_var, a_varK_0, a_varK_1, a_bin, a_binK_0, a_binK_1, a_binK_2, a_binK_3, a_oE_0, a_oE_1, a_un, a_unK_0, a_unK_1, a_unK_2, a_unK_3, a_test, a_tru, a_not, a_asB_0, a_asB_1, a_asB_2, a_asB_3, a_lst_0, a_lst_1, a_and, a_or, a_andK_0, a_andK_1, a_andK_2, a_andK_3, a_andK_4, a_andK_5, a_dIf, a_tand, a_tor, a_tnot, a_ifK_0, a_ifK_1, a_ifK_2, a_ifK_3, a_ifK_4, a_cons, a_consK_0, a_consK_1, a_consK_2, a_consK_3, a_consK_4, a_refA, a_refK_0, a_refK_1, a_refK_2, a_cb, a_tup, a_dLst, a_vals0, a_vals1, a_vals2, a_vals3, a_vals4, call_eq, callO_eq, a_call1, a_call2, a_call3, a_call4, a_rf0, a_rf1, a_rf2, a_rfK_0, a_rfK_1, a_rfK_2, a_end0_0, a_end0_1, a_end0_2, a_end0_3, a_end1, a_put1_0, a_put1_1, a_look, a_lkK_0, a_lkK_1, a_lkK_2, a_ixV, a_ixK_0, a_ixK_1, a_ixK_2, a_lenV, a_truV, a_len_0, a_len_1, a_len_2, a_len_3, a_len_4, a_it, a_rg1, a_rgL, a_en, a_zp, a_itK_0, a_itK_1, a_itK_2, a_itE_0, a_itE_1, a_comp, a_compK_0, a_compK_1, a_isi, a_gI_0, a_gI_1, a_gI_2, List.getElem?_cons_zero, List.getElem?_cons_succ, List.set_cons_zero, List.set_cons_succ, Option.bind_some, Option.map_some, f_nil, f_cons, f_some, f_nx, f_ct, f_bk, f_rt, f_ex, a_putV, a_pv0, a_pv1, a_put, a_sp0, a_sp1, a_sp2, a_sp3, a_sp4, a_app, a_sa1, a_sa2, a_aug, a_au1, a_au2, a_au3, gEq_int, gNe_int, ct_rf, ct_own, if_true, if_false, Bool.false_eq_true, a_try, a_tryK_0, a_tryK_1, a_tryK_2, a_tryH_0, a_tryH_1, a_tryK2_0, a_tryK2_1, a_hdS_0, a_hdS_1, a_compX, a_compKX_0, a_fld, a_meth, a_prop, a_propK, a_propE, a_make, a_makeK, a_makeE, a_putF, a_pfK, a_lkv, a_lkvK, a_dct1, a_dct1K, a_dct1K2, a_dct2, a_key, a_putK, a_pk0, a_pk1, a_pk2, a_rg2, a_rg2K, a_rg2K2, a_oL, gl, set_nr (pv_nr h4), it_lst, e, m, set_nr (pv_nr h6), b]
  rw [o__law_refined]
  rcases key with ⟨δ', e, ms', s3, s4, s5, s6, s7, F', _, _, _, _, _, rfl⟩ | ⟨x, δ', e, ms', rfl, F', en⟩
  · refine ⟨ms', ?_, F'⟩
    simp -implicitDefEqProofs only [F__law_refined, a_seq, a_expr, a_ret, a_retO, a_set, a_setO, a_if, a_unp, a_for, a_nil, a_retN, a_then_0, a_then_1, a_then_2, a_then_3, a_sK_0, a_sK_1, a_ifS_0, a_ifS_1, a_ifS_2, a_k_0, a_k_1, a_k_2, a_k_3, a_k_4, a_k_5, a_k_6, a_setV, a_setOd, a_setVK_0, a_setVK_1, a_setVK_2, a_setVK_3, a_setVK_4, a_setVK_5, a_c, a_var, a_varK_0, a_varK_1, a_bin, a_binK_0, a_binK_1, a_binK_2, a_binK_3, a_oE_0, a_oE_1, a_un, a_unK_0, a_unK_1, a_unK_2, a_unK_3, a_test, a_tru, a_not, a_asB_0, a_asB_1, a_asB_2, a_asB_3, a_lst_0, a_lst_1, a_and, a_or, a_andK_0, a_andK_1, a_andK_2, a_andK_3, a_andK_4, a_andK_5, a_dIf, a_tand, a_tor, a_tnot, a_ifK_0, a_ifK_1, a_ifK_2, a_ifK_3, a_ifK_4, a_cons, a_consK_0, a_consK_1, a_consK_2, a_consK_3, a_consK_4, a_refA, a_refK_0, a_refK_1, a_refK_2, a_cb, a_tup, a_dLst, a_vals0, a_vals1, a_vals2, a_vals3, a_vals4, call_eq, callO_eq, a_call1, a_call2, a_call3, a_call4, a_rf0, a_rf1, a_rf2, a_rfK_0, a_rfK_1, a_rfK_2, a_end0_0, a_end0_1, a_end0_2, a_end0_3, a_end1, a_put1_0, a_put1_1, a_look, a_lkK_0, a_lkK_1, a_lkK_2, a_ixV, a_ixK_0, a_ixK_1, a_ixK_2, a_lenV, a_truV, a_len_0, a_len_1, a_len_2, a_len_3, a_len_4, a_it, a_rg1, a_rgL, a_en, a_zp, a_itK_0, a_itK_1, a_itK_2, a_itE_0, a_itE_1, a_comp, a_compK_0, a_compK_1, a_isi, a_gI_0, a_gI_1, a_gI_2, List.getElem?_cons_zero, List.getElem?_cons_succ, List.set_cons_zero, List.set_cons_succ, Option.bind_some, Option.map_some, f_nil, f_cons, f_some, f_nx, f_ct, f_bk, f_rt, f_ex, a_putV, a_pv0, a_pv1, a_put, a_sp0, a_sp1, a_sp2, a_sp3, a_sp4, a_app, a_sa1, a_sa2, a_aug, a_au1, a_au2, a_au3, gEq_int, gNe_int, ct_rf, ct_own, if_true, if_false, Bool.false_eq_true, a_try, a_tryK_0, a_tryK_1, a_tryK_2, a_tryH_0, a_tryH_1, a_tryK2_0, a_tryK2_1, a_hdS_0, a_hdS_1, a_compX, a_compKX_0, a_fld, a_meth, a_prop, a_propK, a_propE, a_make, a_makeK, a_makeE, a_putF, a_pfK, a_lkv, a_lkvK, a_dct1, a_dct1K, a_dct1K2, a_dct2, a_key, a_putK, a_pk0, a_pk1, a_pk2, a_rg2, a_rg2K, a_rg2K2, a_oL, it64, e]
    rfl
  · refine ⟨ms', ?_, F'⟩
    simp -implicitDefEqProofs only [F__law_refined, a_seq, a_expr, a_ret, a_retO, a_set, a_setO, a_if, a_unp, a_for, a_nil, a_retN, a_then_0, a_then_1, a_then_2, a_then_3, a_sK_0, a_sK_1, a_ifS_0, a_ifS_1, a_ifS_2, a_k_0, a_k_1, a_k_2, a_k_3, a_k_4, a_k_5, a_k_6, a_setV, a_setOd, a_setVK_0, a_setVK_1, a_setVK_2, a_setVK_3, a_setVK_4, a_setVK_5, a_c, a_var, a_varK_0, a_varK_1, a_bin, a_binK_0, a_binK_1, a_binK_2, a_binK_3, a_oE_0, a_oE_1, a_un, a_unK_0, a_unK_1, a_unK_2, a_unK_3, a_test, a_tru, a_not, a_asB_0, a_asB_1, a_asB_2, a_asB_3, a_lst_0, a_lst_1, a_and, a_or, a_andK_0, a_andK_1, a_andK_2, a_andK_3, a_andK_4, a_andK_5, a_dIf, a_tand, a_tor, a_tnot, a_ifK_0, a_ifK_1, a_ifK_2, a_ifK_3, a_ifK_4, a_cons, a_consK_0, a_consK_1, a_consK_2, a_consK_3, a_consK_4, a_refA, a_refK_0, a_refK_1, a_refK_2, a_cb, a_tup, a_dLst, a_vals0, a_vals1, a_vals2, a_vals3, a_vals4, call_eq, callO_eq, a_call1, a_call2, a_call3, a_call4, a_rf0, a_rf1, a_rf2, a_rfK_0, a_rfK_1, a_rfK_2, a_end0_0, a_end0_1, a_end0_2, a_end0_3, a_end1, a_put1_0, a_put1_1, a_look, a_lkK_0, a_lkK_1, a_lkK_2, a_ixV, a_ixK_0, a_ixK_1, a_ixK_2, a_lenV, a_truV, a_len_0, a_len_1, a_len_2, a_len_3, a_len_4, a_it, a_rg1, a_rgL, a_en, a_zp, a_itK_0, a_itK_1, a_itK_2, a_itE_0, a_itE_1, a_comp, a_compK_0, a_compK_1, a_isi, a_gI_0, a_gI_1, a_gI_2, List.getElem?_cons_zero, List.getElem?_cons_succ, List.set_cons_zero, List.set_cons_succ, Option.bind_some, Option.map_some, f_nil, f_cons, f_some, f_nx, f_ct, f_bk, f_rt, f_ex, a_putV, a_pv0, a_pv1, a_put, a_sp0, a_sp1, a_sp2, a_sp3, a_sp4, a_app, a_sa1, a_sa2, a_aug, a_au1, a_au2, a_au3, gEq_int, gNe_int, ct_rf, ct_own, if_true, if_false, Bool.false_eq_true, a_try, a_tryK_0, a_tryK_1, a_tryK_2, a_tryH_0, a_tryH_1, a_tryK2_0, a_tryK2_1, a_hdS_0, a_hdS_1, a_compX, a_compKX_0, a_fld, a_meth, a_prop, a_propK, a_propE, a_make, a_makeK, a_makeE, a_putF, a_pfK, a_lkv, a_lkvK, a_dct1, a_dct1K, a_dct1K2, a_dct2, a_key, a_putK, a_pk0, a_pk1, a_pk2, a_rg2, a_rg2K, a_rg2K2, a_oL, it64, e]
    simp only [toFO, en]
end LW

set_option maxRecDepth 100000
set_option maxHeartbeats 2000000
namespace LW
open PySem PySem.Spec PyProof.Rows L2 DL
/-! ### the program's glasses -/
def gl (v : Nat) (ms : List Nat) : D := .ins "Glasses" ["stands", "members"] [.int (v : Int), .tup (rowD ms)]
theorem pcast (v : Nat) : (((2 ^ v : Nat) : Int) - 1) = (((2 ^ v - 1 : Nat)) : Int) := by
  have : 0 < 2 ^ v := Nat.pow_pos (by decide)
  omega
theorem asc_loop (v : Nat) (mem : D) : ∀ (r : List Nat) (i : Nat) (b : Int) (s3 s4 : Sl), (∀ x ∈ r, x < 2 ^ v ∧ b < (x : Int)) → r.Pairwise (· < ·) → Nr s3 → Nr s4 → ∃ b' s3' s4',
    forL (dUnp [3, 4]) B__check_ascending_0 (enumD i (rowD r)) [.val (.int (((2 ^ v : Nat) : Int) - 1)), .val mem, .val (.int b), s3, s4] = .nx [.val (.int (((2 ^ v : Nat) : Int) - 1)), .val mem, .val (.int b'), s3', s4']
  | [], i, b, s3, s4, _, _, _, _ => ⟨b, s3, s4, rfl⟩
  | x :: r, i, b, s3, s4, hr, hp, h3, h4 => by
    have hp' := List.pairwise_cons.mp hp
    obtain ⟨hx, hb⟩ := hr x List.mem_cons_self
    obtain ⟨b', s3', s4', e⟩ := asc_loop v mem r (i + 1) (x : Int) (.val (.int (i : Int))) (.val (.int (x : Int))) (fun y hy => ⟨(hr y (List.mem_cons_of_mem _ hy)).1, by have := hp'.1 y hy; omega⟩) hp'.2 (nr_val _) (nr_val _)
    refine ⟨b', s3', s4', ?_⟩
    have e2 := whole_ev (x : Int) 0 (((2 ^ v : Nat) : Int) - 1) (by omega) (by omega)
    have d1 : decide ((x : Int) ≤ b) = false := decide_eq_false (by omega)
    show forL _ _ (.tup [.int (i : Int), .int (x : Int)] :: enumD (i + 1) (rowD r)) _ = _
    rw [← e]
    simp -implicitDefEqProofs only [a_seq, a_expr, a_ret, a_retO, a_set, a_setO, a_if, a_unp, a_for, a_nil, a_retN, a_then_0, a_then_1, a_then_2, a_then_3, a_sK_0, a_sK_1, a_ifS_0, a_ifS_1, a_ifS_2, a_k_0, a_k_1, a_k_2, a_k_3, a_k_4, a_k_5, a_k_6, a_setV, a_setOd, a_setVK_0, a_setVK_1, a_setVK_2, a_setVK_3, a_setVK_4, a_setVK_5, a_c, a_var, a_varK_0, a_varK_1, a_bin, a_binK_0, a_binK_1, a_binK_2, a_binK_3, a_oE_0, a_oE_1, a_un, a_unK_0, a_unK_1, a_unK_2, a_unK_3, a_test, a_tru, a_not, a_asB_0, a_asB_1, a_asB_2, a_asB_3, a_lst_0, a_lst_1, a_and, a_or, a_andK_0, a_andK_1, a_andK_2, a_andK_3, a_andK_4, a_andK_5, a_dIf, a_tand, a_tor, a_tnot, a_ifK_0, a_ifK_1, a_ifK_2, a_ifK_3, a_ifK_4, a_cons, a_consK_0, a_consK_1, a_consK_2, a_consK_3, a_consK_4, a_refA, a_refK_0, a_refK_1, a_refK_2, a_cb, a_tup, a_dLst, a_vals0, a_vals1, a_vals2, a_vals3, a_vals4, call_eq, callO_eq, a_call1, a_call2, a_call3, a_call4, a_rf0, a_rf1, a_rf2, a_rfK_0, a_rfK_1, a_rfK_2, a_end0_0, a_end0_1, a_end0_2, a_end0_3, a_end1, a_put1_0, a_put1_1, a_look, a_lkK_0, a_lkK_1, a_lkK_2, a_ixV, a_ixK_0, a_ixK_1, a_ixK_2, a_lenV, a_truV, a_len_0, a_len_1, a_len_2, a_len_3, a_len_4, a_it, a_rg1, a_rgL, a_en, a_zp, a_itK_0, a_itK_1, a_itK_2, a_itE_0, a_itE_1, a_comp, a_compK_0, a_compK_1, a_isi, a_gI_0, a_gI_1, a_gI_2, List.getElem?_cons_zero, List.getElem?_cons_succ, List.set_cons_zero, List.set_cons_succ, Option.bind_some, Option.map_some, f_nil, f_cons, f_some, f_nx, f_ct, f_bk, f_rt, f_ex, a_putV, a_pv0, a_pv1, a_put, a_sp0, a_sp1, a_sp2, a_sp3, a_sp4, a_app, a_sa1, a_sa2, a_aug, a_au1, a_au2, a_au3, gEq_int, gNe_int, ct_rf, ct_own, if_true, if_false, Bool.false_eq_true, a_try, a_tryK_0, a_tryK_1, a_tryK_2, a_tryH_0, a_tryH_1, a_tryK2_0, a_tryK2_1, a_hdS_0, a_hdS_1, a_compX, a_compKX_0, a_fld, a_meth, a_prop, a_propK, a_propE, a_make, a_makeK, a_makeE, a_putF, a_pfK, a_lkv, a_lkvK, a_dct1, a_dct1K, a_dct1K2, a_dct2, a_key, a_putK, a_pk0, a_pk1, a_pk2, a_rg2, a_rg2K, a_rg2K2, a_oL, unp2, set_nr h3, set_nr h4, B__check_ascending_0, e2, Bool.not_true, d1]
theorem asc_ev (q : Bool) {v : Nat} {ms : List Nat} (F : Fam v ms) : fn__check_ascending [.int (((2 ^ v : Nat) : Int) - 1), sq q (rowD ms)] = .ret .non [] := by
  rw [o__check_ascending]
  obtain ⟨b', s3', s4', e⟩ := asc_loop v (sq q (rowD ms)) ms 0 (-1) .un .un (fun x hx => ⟨F.lt x hx, by omega⟩) F.asc nr_un nr_un
  simp -implicitDefEqProofs only [F__check_ascending, a_seq, a_expr, a_ret, a_retO, a_set, a_setO, a_if, a_unp, a_for, a_nil, a_retN, a_then_0, a_then_1, a_then_2, a_then_3, a_sK_0, a_sK_1, a_ifS_0, a_ifS_1, a_ifS_2, a_k_0, a_k_1, a_k_2, a_k_3, a_k_4, a_k_5, a_k_6, a_setV, a_setOd, a_setVK_0, a_setVK_1, a_setVK_2, a_setVK_3, a_setVK_4, a_setVK_5, a_c, a_var, a_varK_0, a_varK_1, a_bin, a_binK_0, a_binK_1, a_binK_2, a_binK_3, a_oE_0, a_oE_1, a_un, a_unK_0, a_unK_1, a_unK_2, a_unK_3, a_test, a_tru, a_not, a_asB_0, a_asB_1, a_asB_2, a_asB_3, a_lst_0, a_lst_1, a_and, a_or, a_andK_0, a_andK_1, a_andK_2, a_andK_3, a_andK_4, a_andK_5, a_dIf, a_tand, a_tor, a_tnot, a_ifK_0, a_ifK_1, a_ifK_2, a_ifK_3, a_ifK_4, a_cons, a_consK_0, a_consK_1, a_consK_2, a_consK_3, a_consK_4, a_refA, a_refK_0, a_refK_1, a_refK_2, a_cb, a_tup, a_dLst, a_vals0, a_vals1, a_vals2, a_vals3, a_vals4, call_eq, callO_eq, a_call1, a_call2, a_call3, a_call4, a_rf0, a_rf1, a_rf2, a_rfK_0, a_rfK_1, a_rfK_2, a_end0_0, a_end0_1, a_end0_2, a_end0_3, a_end1, a_put1_0, a_put1_1, a_look, a_lkK_0, a_lkK_1, a_lkK_2, a_ixV, a_ixK_0, a_ixK_1, a_ixK_2, a_lenV, a_truV, a_len_0, a_len_1, a_len_2, a_len_3, a_len_4, a_it, a_rg1, a_rgL, a_en, a_zp, a_itK_0, a_itK_1, a_itK_2, a_itE_0, a_itE_1, a_comp, a_compK_0, a_compK_1, a_isi, a_gI_0, a_gI_1, a_gI_2, List.getElem?_cons_zero, List.getElem?_cons_succ, List.set_cons_zero, List.set_cons_succ, Option.bind_some, Option.map_some, f_nil, f_cons, f_some, f_nx, f_ct, f_bk, f_rt, f_ex, a_putV, a_pv0, a_pv1, a_put, a_sp0, a_sp1, a_sp2, a_sp3, a_sp4, a_app, a_sa1, a_sa2, a_aug, a_au1, a_au2, a_au3, gEq_int, gNe_int, ct_rf, ct_own, if_true, if_false, Bool.false_eq_true, a_try, a_tryK_0, a_tryK_1, a_tryK_2, a_tryH_0, a_tryH_1, a_tryK2_0, a_tryK2_1, a_hdS_0, a_hdS_1, a_compX, a_compKX_0, a_fld, a_meth, a_prop, a_propK, a_propE, a_make, a_makeK, a_makeE, a_putF, a_pfK, a_lkv, a_lkvK, a_dct1, a_dct1K, a_dct1K2, a_dct2, a_key, a_putK, a_pk0, a_pk1, a_pk2, a_rg2, a_rg2K, a_rg2K2, a_oL, neg1, sq_en, e]
  rfl
theorem rg2_int (i j : Int) (h : -(2 ^ 62) ≤ i ∧ i < 2 ^ 62 ∧ -(2 ^ 62) ≤ j ∧ j < 2 ^ 62) : rg2 (.int i) (.int j) = some (rngD i j) := if_pos h
theorem rngF (i n : Nat) (h : n ≤ 4096) (hi : i ≤ 4096) : rg2 (.int ((i : Nat) : Int)) (.int ((n : Nat) : Int)) = some (rgF i (n - i)) := by
  rw [rg2_int _ _ ⟨by omega, by omega, by omega, by omega⟩]
  unfold rngD rgF
  have e1 : ((n : Int) - (i : Int)).toNat = n - i := by omega
  rw [e1, List.range'_eq_map_range, List.map_map]
  refine congrArg some (List.map_congr_left fun k _ => ?_)
  show D.int ((i : Int) + ((k : Nat) : Int)) = D.int ((i + k : Nat) : Int)
  rw [Int.natCast_add]
theorem mem_rgF' {i n : Nat} {d : D} (h : d ∈ rgF i n) : ∃ k, i ≤ k ∧ k < i + n ∧ d = .int ((k : Nat) : Int) := by
  obtain ⟨k, hk, rfl⟩ := List.mem_map.mp h
  have := List.mem_range'_1.mp hk
  exact ⟨k, this.1, this.2, rfl⟩
theorem meets_in (q : Bool) {v : Nat} {ms : List Nat} (F : Fam v ms) (i a : Nat) (ha : a ∈ ms) (s4 : Sl) (h4 : Pv s4) : ∃ s4', Pv s4' ∧
    forL (setV 4) B__check_meets_0 (rgF (i + 1) (ms.length - (i + 1))) [.val (sq q (rowD ms)), .val (.set (ms.map fun n => ((n : Nat) : Int))), .val (.int (i : Int)), .val (.int (a : Int)), s4] = .nx [.val (sq q (rowD ms)), .val (.set (ms.map fun n => ((n : Nat) : Int))), .val (.int (i : Int)), .val (.int (a : Int)), s4'] := by
  obtain ⟨δ', e, s4', h4', rfl⟩ := for_turn (A := setV 4) (f := B__check_meets_0) (fun _ δ => ∃ s4', Pv s4' ∧ δ = [.val (sq q (rowD ms)), .val (.set (ms.map fun n => ((n : Nat) : Int))), .val (.int (i : Int)), .val (.int (a : Int)), s4']) (rgF (i + 1) (ms.length - (i + 1))) _ ⟨s4, h4, rfl⟩ fun pre d δ hd ⟨s4', h4', eδ⟩ => by
    subst eδ
    obtain ⟨k, hk1, hk2, rfl⟩ := mem_rgF' hd
    have hk : k < ms.length := by omega
    have ix := ix_any (ds := rowD ms) q (d := .int ((ms[k] : Nat) : Int)) (k := k) (by show (ms.map _)[k]? = _; rw [List.getElem?_map, List.getElem?_eq_getElem hk]; rfl)
    have me : gInS true (.int ((a &&& ms[k] : Nat) : Int)) (.set (ms.map fun n => ((n : Nat) : Int))) = some (.bl false) := by
      have : (ms.map fun n => ((n : Nat) : Int)).contains ((a &&& ms[k] : Nat) : Int) = true := by
        rw [List.contains_iff_mem]
        exact List.mem_map.mpr ⟨_, F.meet a ha _ (List.getElem_mem hk), rfl⟩
      show some (D.bl (!(ms.map fun n => ((n : Nat) : Int)).contains _)) = _
      rw [this]; rfl
    refine ⟨[.val (sq q (rowD ms)), .val (.set (ms.map fun n => ((n : Nat) : Int))), .val (.int (i : Int)), .val (.int (a : Int)), .val (.int (k : Int))], _, by rcases h4' with rfl | ⟨x, rfl⟩ <;> rfl, ?_, .val (.int (k : Int)), .inr ⟨_, rfl⟩, rfl⟩
    simp -implicitDefEqProofs only [B__check_meets_0, a_seq, a_expr, a_ret, a_retO, a_set, a_setO, a_if, a_unp, a_for, a_nil, a_retN, a_then_0, a_then_1, a_then_2, a_then_3, a_sK_0, a_sK_1, a_ifS_0, a_ifS_1, a_ifS_2, a_k_0, a_k_1, a_k_2, a_k_3, a_k_4, a_k_5, a_k_6, a_setV, a_setOd, a_setVK_0, a_setVK_1, a_setVK_2, a_setVK_3, a_setVK_4, a_setVK_5, a_c, a_var, a_varK_0, a_varK_1, a_bin, a_binK_0, a_binK_1, a_binK_2, a_binK_3, a_oE_0, a_oE_1, a_un, a_unK_0, a_unK_1, a_unK_2, a_unK_3, a_test, a_tru, a_not, a_asB_0, a_asB_1, a_asB_2, a_asB_3, a_lst_0, a_lst_1, a_and, a_or, a_andK_0, a_andK_1, a_andK_2, a_andK_3, a_andK_4, a_andK_5, a_dIf, a_tand, a_tor, a_tnot, a_ifK_0, a_ifK_1, a_ifK_2, a_ifK_3, a_ifK_4, a_cons, a_consK_0, a_consK_1, a_consK_2, a_consK_3, a_consK_4, a_refA, a_refK_0, a_refK_1, a_refK_2, a_cb, a_tup, a_dLst, a_vals0, a_vals1, a_vals2, a_vals3, a_vals4, call_eq, callO_eq, a_call1, a_call2, a_call3, a_call4, a_rf0, a_rf1, a_rf2, a_rfK_0, a_rfK_1, a_rfK_2, a_end0_0, a_end0_1, a_end0_2, a_end0_3, a_end1, a_put1_0, a_put1_1, a_look, a_lkK_0, a_lkK_1, a_lkK_2, a_ixV, a_ixK_0, a_ixK_1, a_ixK_2, a_lenV, a_truV, a_len_0, a_len_1, a_len_2, a_len_3, a_len_4, a_it, a_rg1, a_rgL, a_en, a_zp, a_itK_0, a_itK_1, a_itK_2, a_itE_0, a_itE_1, a_comp, a_compK_0, a_compK_1, a_isi, a_gI_0, a_gI_1, a_gI_2, List.getElem?_cons_zero, List.getElem?_cons_succ, List.set_cons_zero, List.set_cons_succ, Option.bind_some, Option.map_some, f_nil, f_cons, f_some, f_nx, f_ct, f_bk, f_rt, f_ex, a_putV, a_pv0, a_pv1, a_put, a_sp0, a_sp1, a_sp2, a_sp3, a_sp4, a_app, a_sa1, a_sa2, a_aug, a_au1, a_au2, a_au3, gEq_int, gNe_int, ct_rf, ct_own, if_true, if_false, Bool.false_eq_true, a_try, a_tryK_0, a_tryK_1, a_tryK_2, a_tryH_0, a_tryH_1, a_tryK2_0, a_tryK2_1, a_hdS_0, a_hdS_1, a_compX, a_compKX_0, a_fld, a_meth, a_prop, a_propK, a_propE, a_make, a_makeK, a_makeE, a_putF, a_pfK, a_lkv, a_lkvK, a_dct1, a_dct1K, a_dct1K2, a_dct2, a_key, a_putK, a_pk0, a_pk1, a_pk2, a_rg2, a_rg2K, a_rg2K2, a_oL, ix, band, me]
  exact ⟨s4', h4', e⟩
theorem meets_out (q : Bool) {v : Nat} {ms : List Nat} (F : Fam v ms) (hl : ms.length ≤ 64) : ∀ (r : List Nat) (i : Nat) (s2 s3 s4 : Sl), (∀ a ∈ r, a ∈ ms) → i + r.length ≤ 64 → Pv s2 → Pv s3 → Pv s4 → ∃ s2' s3' s4',
    forL (dUnp [2, 3]) B__check_meets_1 (enumD i (rowD r)) [.val (sq q (rowD ms)), .val (.set (ms.map fun n => ((n : Nat) : Int))), s2, s3, s4] = .nx [.val (sq q (rowD ms)), .val (.set (ms.map fun n => ((n : Nat) : Int))), s2', s3', s4']
  | [], i, s2, s3, s4, _, _, _, _, _ => ⟨s2, s3, s4, rfl⟩
  | a :: r, i, s2, s3, s4, hr, hi, h2, h3, h4 => by
    have hi2 : i + (r.length + 1) ≤ 64 := hi
    obtain ⟨s4a, h4a, e1⟩ := meets_in q F i a (hr a List.mem_cons_self) s4 h4
    obtain ⟨s2', s3', s4', e2⟩ := meets_out q F hl r (i + 1) (.val (.int (i : Int))) (.val (.int (a : Int))) s4a (fun b hb => hr b (List.mem_cons_of_mem _ hb)) (by omega) (.inr ⟨_, rfl⟩) (.inr ⟨_, rfl⟩) h4a
    refine ⟨s2', s3', s4', ?_⟩
    have a1 : gAdd (.int (i : Int)) (.int 1) = some (.int ((i + 1 : Nat) : Int)) := rfl
    have ln := sq_len q (rowD ms)
    rw [row_len] at ln
    have rg := rngF (i + 1) ms.length (by omega) (by omega)
    show forL _ _ (.tup [.int (i : Int), .int (a : Int)] :: enumD (i + 1) (rowD r)) _ = _
    rw [← e2]
    simp -implicitDefEqProofs only [a_seq, a_expr, a_ret, a_retO, a_set, a_setO, a_if, a_unp, a_for, a_nil, a_retN, a_then_0, a_then_1, a_then_2, a_then_3, a_sK_0, a_sK_1, a_ifS_0, a_ifS_1, a_ifS_2, a_k_0, a_k_1, a_k_2, a_k_3, a_k_4, a_k_5, a_k_6, a_setV, a_setOd, a_setVK_0, a_setVK_1, a_setVK_2, a_setVK_3, a_setVK_4, a_setVK_5, a_c, a_var, a_varK_0, a_varK_1, a_bin, a_binK_0, a_binK_1, a_binK_2, a_binK_3, a_oE_0, a_oE_1, a_un, a_unK_0, a_unK_1, a_unK_2, a_unK_3, a_test, a_tru, a_not, a_asB_0, a_asB_1, a_asB_2, a_asB_3, a_lst_0, a_lst_1, a_and, a_or, a_andK_0, a_andK_1, a_andK_2, a_andK_3, a_andK_4, a_andK_5, a_dIf, a_tand, a_tor, a_tnot, a_ifK_0, a_ifK_1, a_ifK_2, a_ifK_3, a_ifK_4, a_cons, a_consK_0, a_consK_1, a_consK_2, a_consK_3, a_consK_4, a_refA, a_refK_0, a_refK_1, a_refK_2, a_cb, a_tup, a_dLst, a_vals0, a_vals1, a_vals2, a_vals3, a_vals4, call_eq, callO_eq, a_call1, a_call2, a_call3, a_call4, a_rf0, a_rf1, a_rf2, a_rfK_0, a_rfK_1, a_rfK_2, a_end0_0, a_end0_1, a_end0_2, a_end0_3, a_end1, a_put1_0, a_put1_1, a_look, a_lkK_0, a_lkK_1, a_lkK_2, a_ixV, a_ixK_0, a_ixK_1, a_ixK_2, a_lenV, a_truV, a_len_0, a_len_1, a_len_2, a_len_3, a_len_4, a_it, a_rg1, a_rgL, a_en, a_zp, a_itK_0, a_itK_1, a_itK_2, a_itE_0, a_itE_1, a_comp, a_compK_0, a_compK_1, a_isi, a_gI_0, a_gI_1, a_gI_2, List.getElem?_cons_zero, List.getElem?_cons_succ, List.set_cons_zero, List.set_cons_succ, Option.bind_some, Option.map_some, f_nil, f_cons, f_some, f_nx, f_ct, f_bk, f_rt, f_ex, a_putV, a_pv0, a_pv1, a_put, a_sp0, a_sp1, a_sp2, a_sp3, a_sp4, a_app, a_sa1, a_sa2, a_aug, a_au1, a_au2, a_au3, gEq_int, gNe_int, ct_rf, ct_own, if_true, if_false, Bool.false_eq_true, a_try, a_tryK_0, a_tryK_1, a_tryK_2, a_tryH_0, a_tryH_1, a_tryK2_0, a_tryK2_1, a_hdS_0, a_hdS_1, a_compX, a_compKX_0, a_fld, a_meth, a_prop, a_propK, a_propE, a_make, a_makeK, a_makeE, a_putF, a_pfK, a_lkv, a_lkvK, a_dct1, a_dct1K, a_dct1K2, a_dct2, a_key, a_putK, a_pk0, a_pk1, a_pk2, a_rg2, a_rg2K, a_rg2K2, a_oL, unp2, set_nr (pv_nr h2), set_nr (pv_nr h3), B__check_meets_1, a1, ln, rg, e1]
theorem meets_ev (q : Bool) {v : Nat} {ms : List Nat} (F : Fam v ms) (h2 : v ≤ 6) : fn__check_meets [sq q (rowD ms)] = .ret .non [] := by
  have hl : ms.length ≤ 64 := Nat.le_trans F.len (Nat.le_trans (Nat.pow_le_pow_right (by decide) h2) (by decide))
  rw [o__check_meets]
  obtain ⟨s2', s3', s4', e⟩ := meets_out q F hl ms 0 .un .un .un (fun _ h => h) (by omega) (.inl rfl) (.inl rfl) (.inl rfl)
  have sd : setD (rowD ms) = some (.set (ms.map fun n => ((n : Nat) : Int))) := by
    unfold setD
    rw [intsD_nats, Option.bind_some, if_pos (by rw [List.length_map]; show ms.length + 1 < 4096; omega)]
  have gs : gSet [sq q (rowD ms)] = some (.set (ms.map fun n => ((n : Nat) : Int))) := by cases q <;> exact sd
  simp -implicitDefEqProofs only [F__check_meets, a_seq, a_expr, a_ret, a_retO, a_set, a_setO, a_if, a_unp, a_for, a_nil, a_retN, a_then_0, a_then_1, a_then_2, a_then_3, a_sK_0, a_sK_1, a_ifS_0, a_ifS_1, a_ifS_2, a_k_0, a_k_1, a_k_2, a_k_3, a_k_4, a_k_5, a_k_6, a_setV, a_setOd, a_setVK_0, a_setVK_1, a_setVK_2, a_setVK_3, a_setVK_4, a_setVK_5, a_c, a_var, a_varK_0, a_varK_1, a_bin, a_binK_0, a_binK_1, a_binK_2, a_binK_3, a_oE_0, a_oE_1, a_un, a_unK_0, a_unK_1, a_unK_2, a_unK_3, a_test, a_tru, a_not, a_asB_0, a_asB_1, a_asB_2, a_asB_3, a_lst_0, a_lst_1, a_and, a_or, a_andK_0, a_andK_1, a_andK_2, a_andK_3, a_andK_4, a_andK_5, a_dIf, a_tand, a_tor, a_tnot, a_ifK_0, a_ifK_1, a_ifK_2, a_ifK_3, a_ifK_4, a_cons, a_consK_0, a_consK_1, a_consK_2, a_consK_3, a_consK_4, a_refA, a_refK_0, a_refK_1, a_refK_2, a_cb, a_tup, a_dLst, a_vals0, a_vals1, a_vals2, a_vals3, a_vals4, call_eq, callO_eq, a_call1, a_call2, a_call3, a_call4, a_rf0, a_rf1, a_rf2, a_rfK_0, a_rfK_1, a_rfK_2, a_end0_0, a_end0_1, a_end0_2, a_end0_3, a_end1, a_put1_0, a_put1_1, a_look, a_lkK_0, a_lkK_1, a_lkK_2, a_ixV, a_ixK_0, a_ixK_1, a_ixK_2, a_lenV, a_truV, a_len_0, a_len_1, a_len_2, a_len_3, a_len_4, a_it, a_rg1, a_rgL, a_en, a_zp, a_itK_0, a_itK_1, a_itK_2, a_itE_0, a_itE_1, a_comp, a_compK_0, a_compK_1, a_isi, a_gI_0, a_gI_1, a_gI_2, List.getElem?_cons_zero, List.getElem?_cons_succ, List.set_cons_zero, List.set_cons_succ, Option.bind_some, Option.map_some, f_nil, f_cons, f_some, f_nx, f_ct, f_bk, f_rt, f_ex, a_putV, a_pv0, a_pv1, a_put, a_sp0, a_sp1, a_sp2, a_sp3, a_sp4, a_app, a_sa1, a_sa2, a_aug, a_au1, a_au2, a_au3, gEq_int, gNe_int, ct_rf, ct_own, if_true, if_false, Bool.false_eq_true, a_try, a_tryK_0, a_tryK_1, a_tryK_2, a_tryH_0, a_tryH_1, a_tryK2_0, a_tryK2_1, a_hdS_0, a_hdS_1, a_compX, a_compKX_0, a_fld, a_meth, a_prop, a_propK, a_propE, a_make, a_makeK, a_makeE, a_putF, a_pfK, a_lkv, a_lkvK, a_dct1, a_dct1K, a_dct1K2, a_dct2, a_key, a_putK, a_pk0, a_pk1, a_pk2, a_rg2, a_rg2K, a_rg2K2, a_oL, gs, sq_en, e]
  rfl
theorem sq_last (q : Bool) {v : Nat} {ms : List Nat} (F : Fam v ms) : idxD (sq q (rowD ms)) (.int (-1)) = some (.int ((2 ^ v - 1 : Nat) : Int)) := by
  cases q
  · exact (at_last F.last F.ne).1
  · exact (at_last F.last F.ne).2
theorem checked_ev (q : Bool) {v : Nat} {ms : List Nat} (F : Fam v ms) (h1 : 1 ≤ v) (h2 : v ≤ 6) : fn__checked_members [.int (v : Int), sq q (rowD ms)] = .ret (.tup (rowD ms)) [] := by
  rw [o__checked_members]
  have e0 := whole_ev (v : Int) 1 6 (by omega) (by omega)
  have e1 := seq_ev q (rowD ms)
  have e2 := all_ok v h1 h2
  have e3 := asc_ev q F
  have e4 := meets_ev q F h2
  have ln := sq_len q (rowD ms)
  rw [row_len] at ln
  have b0 : (((ms.length : Nat) : Int) == 0) = false := by
    have : 0 < ms.length := List.length_pos_iff.mpr F.ne
    exact beq_eq_false_iff_ne.mpr (by omega)
  have la := sq_last q F
  have b1 : (!(((2 ^ v - 1 : Nat) : Int) == (((2 ^ v : Nat) : Int) - 1))) = false := by rw [pcast]; simp
  simp -implicitDefEqProofs only [F__checked_members, a_seq, a_expr, a_ret, a_retO, a_set, a_setO, a_if, a_unp, a_for, a_nil, a_retN, a_then_0, a_then_1, a_then_2, a_then_3, a_sK_0, a_sK_1, a_ifS_0, a_ifS_1, a_ifS_2, a_k_0, a_k_1, a_k_2, a_k_3, a_k_4, a_k_5, a_k_6, a_setV, a_setOd, a_setVK_0, a_setVK_1, a_setVK_2, a_setVK_3, a_setVK_4, a_setVK_5, a_c, a_var, a_varK_0, a_varK_1, a_bin, a_binK_0, a_binK_1, a_binK_2, a_binK_3, a_oE_0, a_oE_1, a_un, a_unK_0, a_unK_1, a_unK_2, a_unK_3, a_test, a_tru, a_not, a_asB_0, a_asB_1, a_asB_2, a_asB_3, a_lst_0, a_lst_1, a_and, a_or, a_andK_0, a_andK_1, a_andK_2, a_andK_3, a_andK_4, a_andK_5, a_dIf, a_tand, a_tor, a_tnot, a_ifK_0, a_ifK_1, a_ifK_2, a_ifK_3, a_ifK_4, a_cons, a_consK_0, a_consK_1, a_consK_2, a_consK_3, a_consK_4, a_refA, a_refK_0, a_refK_1, a_refK_2, a_cb, a_tup, a_dLst, a_vals0, a_vals1, a_vals2, a_vals3, a_vals4, call_eq, callO_eq, a_call1, a_call2, a_call3, a_call4, a_rf0, a_rf1, a_rf2, a_rfK_0, a_rfK_1, a_rfK_2, a_end0_0, a_end0_1, a_end0_2, a_end0_3, a_end1, a_put1_0, a_put1_1, a_look, a_lkK_0, a_lkK_1, a_lkK_2, a_ixV, a_ixK_0, a_ixK_1, a_ixK_2, a_lenV, a_truV, a_len_0, a_len_1, a_len_2, a_len_3, a_len_4, a_it, a_rg1, a_rgL, a_en, a_zp, a_itK_0, a_itK_1, a_itK_2, a_itE_0, a_itE_1, a_comp, a_compK_0, a_compK_1, a_isi, a_gI_0, a_gI_1, a_gI_2, List.getElem?_cons_zero, List.getElem?_cons_succ, List.set_cons_zero, List.set_cons_succ, Option.bind_some, Option.map_some, f_nil, f_cons, f_some, f_nx, f_ct, f_bk, f_rt, f_ex, a_putV, a_pv0, a_pv1, a_put, a_sp0, a_sp1, a_sp2, a_sp3, a_sp4, a_app, a_sa1, a_sa2, a_aug, a_au1, a_au2, a_au3, gEq_int, gNe_int, ct_rf, ct_own, if_true, if_false, Bool.false_eq_true, a_try, a_tryK_0, a_tryK_1, a_tryK_2, a_tryH_0, a_tryH_1, a_tryK2_0, a_tryK2_1, a_hdS_0, a_hdS_1, a_compX, a_compKX_0, a_fld, a_meth, a_prop, a_propK, a_propE, a_make, a_makeK, a_makeE, a_putF, a_pfK, a_lkv, a_lkvK, a_dct1, a_dct1K, a_dct1K2, a_dct2, a_key, a_putK, a_pk0, a_pk1, a_pk2, a_rg2, a_rg2K, a_rg2K2, a_oL, e0, e1, e2, e3, e4, ln, b0, neg1, la, b1, Bool.not_true, sq_tup]
  rfl
theorem c_st : cs_stands.contains "Glasses" = true := by decide +kernel
theorem c_me : cs_members.contains "Glasses" = true := by decide +kernel
theorem init_ev (q : Bool) {v : Nat} {ms : List Nat} (F : Fam v ms) (h1 : 1 ≤ v) (h2 : v ≤ 6) : fn_Glasses_init [.ins "Glasses" [] [], .int (v : Int), sq q (rowD ms)] = .ret .non [gl v ms] := by
  rw [o_Glasses_init]
  have e := checked_ev q F h1 h2
  have p1 : ∀ δ x, pfK2 cs_stands 0 "stands" x δ (some (.ins "Glasses" [] [])) = oNx (putV 0 (.ins "Glasses" ["stands"] [x]) δ) := fun δ x => a_pfK2 _ _ _ _ _ _ _ _ c_st (by decide)
  have p2 : ∀ δ x y, pfK2 cs_members 0 "members" y δ (some (.ins "Glasses" ["stands"] [x])) = oNx (putV 0 (.ins "Glasses" ["stands", "members"] [x, y]) δ) := fun δ x y => a_pfK2 _ _ _ _ _ _ _ _ c_me (by decide)
  simp -implicitDefEqProofs only [F_Glasses_init, a_seq, a_expr, a_ret, a_retO, a_set, a_setO, a_if, a_unp, a_for, a_nil, a_retN, a_then_0, a_then_1, a_then_2, a_then_3, a_sK_0, a_sK_1, a_ifS_0, a_ifS_1, a_ifS_2, a_k_0, a_k_1, a_k_2, a_k_3, a_k_4, a_k_5, a_k_6, a_setV, a_setOd, a_setVK_0, a_setVK_1, a_setVK_2, a_setVK_3, a_setVK_4, a_setVK_5, a_c, a_var, a_varK_0, a_varK_1, a_bin, a_binK_0, a_binK_1, a_binK_2, a_binK_3, a_oE_0, a_oE_1, a_un, a_unK_0, a_unK_1, a_unK_2, a_unK_3, a_test, a_tru, a_not, a_asB_0, a_asB_1, a_asB_2, a_asB_3, a_lst_0, a_lst_1, a_and, a_or, a_andK_0, a_andK_1, a_andK_2, a_andK_3, a_andK_4, a_andK_5, a_dIf, a_tand, a_tor, a_tnot, a_ifK_0, a_ifK_1, a_ifK_2, a_ifK_3, a_ifK_4, a_cons, a_consK_0, a_consK_1, a_consK_2, a_consK_3, a_consK_4, a_refA, a_refK_0, a_refK_1, a_refK_2, a_cb, a_tup, a_dLst, a_vals0, a_vals1, a_vals2, a_vals3, a_vals4, call_eq, callO_eq, a_call1, a_call2, a_call3, a_call4, a_rf0, a_rf1, a_rf2, a_rfK_0, a_rfK_1, a_rfK_2, a_end0_0, a_end0_1, a_end0_2, a_end0_3, a_end1, a_put1_0, a_put1_1, a_look, a_lkK_0, a_lkK_1, a_lkK_2, a_ixV, a_ixK_0, a_ixK_1, a_ixK_2, a_lenV, a_truV, a_len_0, a_len_1, a_len_2, a_len_3, a_len_4, a_it, a_rg1, a_rgL, a_en, a_zp, a_itK_0, a_itK_1, a_itK_2, a_itE_0, a_itE_1, a_comp, a_compK_0, a_compK_1, a_isi, a_gI_0, a_gI_1, a_gI_2, List.getElem?_cons_zero, List.getElem?_cons_succ, List.set_cons_zero, List.set_cons_succ, Option.bind_some, Option.map_some, f_nil, f_cons, f_some, f_nx, f_ct, f_bk, f_rt, f_ex, a_putV, a_pv0, a_pv1, a_put, a_sp0, a_sp1, a_sp2, a_sp3, a_sp4, a_app, a_sa1, a_sa2, a_aug, a_au1, a_au2, a_au3, gEq_int, gNe_int, ct_rf, ct_own, if_true, if_false, Bool.false_eq_true, a_try, a_tryK_0, a_tryK_1, a_tryK_2, a_tryH_0, a_tryH_1, a_tryK2_0, a_tryK2_1, a_hdS_0, a_hdS_1, a_compX, a_compKX_0, a_fld, a_meth, a_prop, a_propK, a_propE, a_make, a_makeK, a_makeE, a_putF, a_pfK, a_lkv, a_lkvK, a_dct1, a_dct1K, a_dct1K2, a_dct2, a_key, a_putK, a_pk0, a_pk1, a_pk2, a_rg2, a_rg2K, a_rg2K2, a_oL, e, p1, p2]
  rfl
theorem un_not (i : Int) : gU Builtin.bitNot (.int i) = some (.int (Builtin.bitNot i)) := rfl
theorem fld_st (v : Nat) (ms : List Nat) : fldO cs_stands "stands" (gl v ms) = some (.int (v : Int)) := by
  show (if cs_stands.contains "Glasses" = true then ((["stands", "members"] : List Str).zip [D.int (v : Int), .tup (rowD ms)]).lookup ("stands" : Str) else none) = _
  rw [if_pos c_st]; rfl
theorem fld_me (v : Nat) (ms : List Nat) : fldO cs_members "members" (gl v ms) = some (.tup (rowD ms)) := by
  show (if cs_members.contains "Glasses" = true then ((["stands", "members"] : List Str).zip [D.int (v : Int), .tup (rowD ms)]).lookup ("members" : Str) else none) = _
  rw [if_pos c_me]; rfl
theorem ground_ev {v : Nat} {ms : List Nat} (F : Fam v ms) (h1 : 1 ≤ v) (h2 : v ≤ 6) {l : Nat} (hl : l < 2 ^ v) : fn_Glasses_rounded [gl v ms, .int (l : Int)] = .ret (.int ((Rd v ms l : Nat) : Int)) [] := by
  have hz : ms.length ≤ 64 := Nat.le_trans F.len (Nat.le_trans (Nat.pow_le_pow_right (by decide) h2) (by decide))
  have e0 := lot_ok v l h1 h2 hl
  have e := comp_map (setV 2) Q_Glasses_rounded_0 E_Glasses_rounded_0 [2] (δ := [.val (gl v ms), .val (.int (l : Int)), .un]) (fun d => match d with | .int i => decide (l &&& i.toNat = l) | _ => false) id rfl (rowD ms) [] (by rw [row_len]; exact le_line (by show 0 + ms.length ≤ _; omega)) fun d hd => by
    obtain ⟨k, _, rfl⟩ := List.mem_map.mp hd
    refine ⟨[.val (gl v ms), .val (.int (l : Int)), .val (.int (k : Int))], [.val (gl v ms), .val (.int (l : Int)), .val (.int (k : Int))], rfl, ?_, fun _ => rfl, fun _ => ⟨_, rfl, rfl⟩⟩
    simp -implicitDefEqProofs only [Q_Glasses_rounded_0, a_seq, a_expr, a_ret, a_retO, a_set, a_setO, a_if, a_unp, a_for, a_nil, a_retN, a_then_0, a_then_1, a_then_2, a_then_3, a_sK_0, a_sK_1, a_ifS_0, a_ifS_1, a_ifS_2, a_k_0, a_k_1, a_k_2, a_k_3, a_k_4, a_k_5, a_k_6, a_setV, a_setOd, a_setVK_0, a_setVK_1, a_setVK_2, a_setVK_3, a_setVK_4, a_setVK_5, a_c, a_var, a_varK_0, a_varK_1, a_bin, a_binK_0, a_binK_1, a_binK_2, a_binK_3, a_oE_0, a_oE_1, a_un, a_unK_0, a_unK_1, a_unK_2, a_unK_3, a_test, a_tru, a_not, a_asB_0, a_asB_1, a_asB_2, a_asB_3, a_lst_0, a_lst_1, a_and, a_or, a_andK_0, a_andK_1, a_andK_2, a_andK_3, a_andK_4, a_andK_5, a_dIf, a_tand, a_tor, a_tnot, a_ifK_0, a_ifK_1, a_ifK_2, a_ifK_3, a_ifK_4, a_cons, a_consK_0, a_consK_1, a_consK_2, a_consK_3, a_consK_4, a_refA, a_refK_0, a_refK_1, a_refK_2, a_cb, a_tup, a_dLst, a_vals0, a_vals1, a_vals2, a_vals3, a_vals4, call_eq, callO_eq, a_call1, a_call2, a_call3, a_call4, a_rf0, a_rf1, a_rf2, a_rfK_0, a_rfK_1, a_rfK_2, a_end0_0, a_end0_1, a_end0_2, a_end0_3, a_end1, a_put1_0, a_put1_1, a_look, a_lkK_0, a_lkK_1, a_lkK_2, a_ixV, a_ixK_0, a_ixK_1, a_ixK_2, a_lenV, a_truV, a_len_0, a_len_1, a_len_2, a_len_3, a_len_4, a_it, a_rg1, a_rgL, a_en, a_zp, a_itK_0, a_itK_1, a_itK_2, a_itE_0, a_itE_1, a_comp, a_compK_0, a_compK_1, a_isi, a_gI_0, a_gI_1, a_gI_2, List.getElem?_cons_zero, List.getElem?_cons_succ, List.set_cons_zero, List.set_cons_succ, Option.bind_some, Option.map_some, f_nil, f_cons, f_some, f_nx, f_ct, f_bk, f_rt, f_ex, a_putV, a_pv0, a_pv1, a_put, a_sp0, a_sp1, a_sp2, a_sp3, a_sp4, a_app, a_sa1, a_sa2, a_aug, a_au1, a_au2, a_au3, gEq_int, gNe_int, ct_rf, ct_own, if_true, if_false, Bool.false_eq_true, a_try, a_tryK_0, a_tryK_1, a_tryK_2, a_tryH_0, a_tryH_1, a_tryK2_0, a_tryK2_1, a_hdS_0, a_hdS_1, a_compX, a_compKX_0, a_fld, a_meth, a_prop, a_propK, a_propE, a_make, a_makeK, a_makeE, a_putF, a_pfK, a_lkv, a_lkvK, a_dct1, a_dct1K, a_dct1K2, a_dct2, a_key, a_putK, a_pk0, a_pk1, a_pk2, a_rg2, a_rg2K, a_rg2K2, a_oL, un_not, wib, Int.toNat_natCast]
  have fl : ((rowD ms).filter fun d => match d with | .int i => decide (l &&& i.toNat = l) | _ => false).map id = rowD (ms.filter fun m => decide (l &&& m = l)) := by
    rw [List.map_id]
    unfold rowD
    rw [List.filter_map]
    congr 1
  rw [fl, List.nil_append] at e
  have mn : gMin [.lst (rowD (ms.filter fun m => decide (l &&& m = l)))] = some (.int ((Rd v ms l : Nat) : Int)) := by
    show ((intsD (rowD _)).bind minO).map D.int = _
    rw [intsD_nats, Option.bind_some, minO_rd F hl]; rfl
  rw [o_Glasses_rounded]
  simp -implicitDefEqProofs only [F_Glasses_rounded, a_seq, a_expr, a_ret, a_retO, a_set, a_setO, a_if, a_unp, a_for, a_nil, a_retN, a_then_0, a_then_1, a_then_2, a_then_3, a_sK_0, a_sK_1, a_ifS_0, a_ifS_1, a_ifS_2, a_k_0, a_k_1, a_k_2, a_k_3, a_k_4, a_k_5, a_k_6, a_setV, a_setOd, a_setVK_0, a_setVK_1, a_setVK_2, a_setVK_3, a_setVK_4, a_setVK_5, a_c, a_var, a_varK_0, a_varK_1, a_bin, a_binK_0, a_binK_1, a_binK_2, a_binK_3, a_oE_0, a_oE_1, a_un, a_unK_0, a_unK_1, a_unK_2, a_unK_3, a_test, a_tru, a_not, a_asB_0, a_asB_1, a_asB_2, a_asB_3, a_lst_0, a_lst_1, a_and, a_or, a_andK_0, a_andK_1, a_andK_2, a_andK_3, a_andK_4, a_andK_5, a_dIf, a_tand, a_tor, a_tnot, a_ifK_0, a_ifK_1, a_ifK_2, a_ifK_3, a_ifK_4, a_cons, a_consK_0, a_consK_1, a_consK_2, a_consK_3, a_consK_4, a_refA, a_refK_0, a_refK_1, a_refK_2, a_cb, a_tup, a_dLst, a_vals0, a_vals1, a_vals2, a_vals3, a_vals4, call_eq, callO_eq, a_call1, a_call2, a_call3, a_call4, a_rf0, a_rf1, a_rf2, a_rfK_0, a_rfK_1, a_rfK_2, a_end0_0, a_end0_1, a_end0_2, a_end0_3, a_end1, a_put1_0, a_put1_1, a_look, a_lkK_0, a_lkK_1, a_lkK_2, a_ixV, a_ixK_0, a_ixK_1, a_ixK_2, a_lenV, a_truV, a_len_0, a_len_1, a_len_2, a_len_3, a_len_4, a_it, a_rg1, a_rgL, a_en, a_zp, a_itK_0, a_itK_1, a_itK_2, a_itE_0, a_itE_1, a_comp, a_compK_0, a_compK_1, a_isi, a_gI_0, a_gI_1, a_gI_2, List.getElem?_cons_zero, List.getElem?_cons_succ, List.set_cons_zero, List.set_cons_succ, Option.bind_some, Option.map_some, f_nil, f_cons, f_some, f_nx, f_ct, f_bk, f_rt, f_ex, a_putV, a_pv0, a_pv1, a_put, a_sp0, a_sp1, a_sp2, a_sp3, a_sp4, a_app, a_sa1, a_sa2, a_aug, a_au1, a_au2, a_au3, gEq_int, gNe_int, ct_rf, ct_own, if_true, if_false, Bool.false_eq_true, a_try, a_tryK_0, a_tryK_1, a_tryK_2, a_tryH_0, a_tryH_1, a_tryK2_0, a_tryK2_1, a_hdS_0, a_hdS_1, a_compX, a_compKX_0, a_fld, a_meth, a_prop, a_propK, a_propE, a_make, a_makeK, a_makeE, a_putF, a_pfK, a_lkv, a_lkvK, a_dct1, a_dct1K, a_dct1K2, a_dct2, a_key, a_putK, a_pk0, a_pk1, a_pk2, a_rg2, a_rg2K, a_rg2K2, a_oL, fld_st, e0, fld_me, e, mn]
  rfl
end LW

set_option maxRecDepth 100000
set_option maxHeartbeats 2000000
namespace LW
open PySem PySem.Spec PyProof.Rows L2 DL
/-! ### sharp steps of the program -/
theorem ii_rd (v : Nat) (ms : List Nat) : isIns "Glasses" "rounded" (gl v ms) = true := by
  show (decide (("Glasses" : Str) = "Glasses") && !(["stands", "members"] : List Str).contains "rounded") = true
  decide +kernel
theorem rcv_rd (v : Nat) (ms : List Nat) (fs : DA) (δ : DEnv) : recvK "Glasses" "rounded" fs (.ok (gl v ms) δ) = consK2 (gl v ms) (fs δ) := a_recv _ _ _ _ _ (ii_rd v ms)
theorem beq_nat (a c : Nat) : (((a : Int)) == (c : Int)) = decide (a = c) := by
  rw [Bool.eq_iff_iff]; simp only [beq_iff_eq, decide_eq_true_eq]; omega
theorem issharp_ev {v : Nat} {ms : List Nat} (F : Fam v ms) (h1 : 1 ≤ v) (h2 : v ≤ 6) {r : List Nat} (hr : Good v r) {l : Nat} (hl : l < 2 ^ v) :
    fn__is_sharp [gl v ms, .tup (rowD r), .int (l : Int)] = .ret (.bl (decide (Rd v ms (Nx r l) = Rd v ms (Nx r (Rd v ms l))))) [] := by
  have n1 : fn_next_lot [.tup (rowD r), .int (l : Int)] = .ret (.int (Nx r l : Nat)) [] := next_ev true r l
  have n2 : fn_next_lot [.tup (rowD r), .int ((Rd v ms l : Nat) : Int)] = .ret (.int (Nx r (Rd v ms l) : Nat)) [] := next_ev true r _
  have g0 := ground_ev F h1 h2 hl
  have g1 := ground_ev F h1 h2 (nx_lt (r := r) (l := l) hr.2)
  have g2 := ground_ev F h1 h2 (nx_lt (r := r) (l := Rd v ms l) hr.2)
  rw [o__is_sharp]
  simp -implicitDefEqProofs only [F__is_sharp, a_seq, a_expr, a_ret, a_retO, a_set, a_setO, a_if, a_unp, a_for, a_nil, a_retN, a_then_0, a_then_1, a_then_2, a_then_3, a_sK_0, a_sK_1, a_ifS_0, a_ifS_1, a_ifS_2, a_k_0, a_k_1, a_k_2, a_k_3, a_k_4, a_k_5, a_k_6, a_setV, a_setOd, a_setVK_0, a_setVK_1, a_setVK_2, a_setVK_3, a_setVK_4, a_setVK_5, a_c, a_var, a_varK_0, a_varK_1, a_bin, a_binK_0, a_binK_1, a_binK_2, a_binK_3, a_oE_0, a_oE_1, a_un, a_unK_0, a_unK_1, a_unK_2, a_unK_3, a_test, a_tru, a_not, a_asB_0, a_asB_1, a_asB_2, a_asB_3, a_lst_0, a_lst_1, a_and, a_or, a_andK_0, a_andK_1, a_andK_2, a_andK_3, a_andK_4, a_andK_5, a_dIf, a_tand, a_tor, a_tnot, a_ifK_0, a_ifK_1, a_ifK_2, a_ifK_3, a_ifK_4, a_cons, a_consK_0, a_consK_1, a_consK_2, a_consK_3, a_consK_4, a_refA, a_refK_0, a_refK_1, a_refK_2, a_cb, a_tup, a_dLst, a_vals0, a_vals1, a_vals2, a_vals3, a_vals4, call_eq, callO_eq, a_call1, a_call2, a_call3, a_call4, a_rf0, a_rf1, a_rf2, a_rfK_0, a_rfK_1, a_rfK_2, a_end0_0, a_end0_1, a_end0_2, a_end0_3, a_end1, a_put1_0, a_put1_1, a_look, a_lkK_0, a_lkK_1, a_lkK_2, a_ixV, a_ixK_0, a_ixK_1, a_ixK_2, a_lenV, a_truV, a_len_0, a_len_1, a_len_2, a_len_3, a_len_4, a_it, a_rg1, a_rgL, a_en, a_zp, a_itK_0, a_itK_1, a_itK_2, a_itE_0, a_itE_1, a_comp, a_compK_0, a_compK_1, a_isi, a_gI_0, a_gI_1, a_gI_2, List.getElem?_cons_zero, List.getElem?_cons_succ, List.set_cons_zero, List.set_cons_succ, Option.bind_some, Option.map_some, f_nil, f_cons, f_some, f_nx, f_ct, f_bk, f_rt, f_ex, a_putV, a_pv0, a_pv1, a_put, a_sp0, a_sp1, a_sp2, a_sp3, a_sp4, a_app, a_sa1, a_sa2, a_aug, a_au1, a_au2, a_au3, gEq_int, gNe_int, ct_rf, ct_own, if_true, if_false, Bool.false_eq_true, a_try, a_tryK_0, a_tryK_1, a_tryK_2, a_tryH_0, a_tryH_1, a_tryK2_0, a_tryK2_1, a_hdS_0, a_hdS_1, a_compX, a_compKX_0, a_fld, a_meth, a_prop, a_propK, a_propE, a_make, a_makeK, a_makeE, a_putF, a_pfK, a_lkv, a_lkvK, a_dct1, a_dct1K, a_dct1K2, a_dct2, a_key, a_putK, a_pk0, a_pk1, a_pk2, a_rg2, a_rg2K, a_rg2K2, a_oL, rcv_rd, n1, g1, g0, n2, g2, beq_nat]
  rfl
theorem sharpat_ev (q : Bool) {v : Nat} {ms : List Nat} (F : Fam v ms) (h1 : 1 ≤ v) (h2 : v ≤ 6) {r : List Nat} (hr : Good v r) {l : Nat} (hl : l < 2 ^ v) :
    fn_sharp_at [gl v ms, sq q (rowD r), .int (l : Int)] = .ret (.bl (decide (Rd v ms (Nx r l) = Rd v ms (Nx r (Rd v ms l))))) [] := by
  have c := crow_ev q v r h1 h2 hr
  have k := lot_ok v l h1 h2 hl
  have s := issharp_ev F h1 h2 hr hl
  rw [o_sharp_at]
  simp -implicitDefEqProofs only [F_sharp_at, a_seq, a_expr, a_ret, a_retO, a_set, a_setO, a_if, a_unp, a_for, a_nil, a_retN, a_then_0, a_then_1, a_then_2, a_then_3, a_sK_0, a_sK_1, a_ifS_0, a_ifS_1, a_ifS_2, a_k_0, a_k_1, a_k_2, a_k_3, a_k_4, a_k_5, a_k_6, a_setV, a_setOd, a_setVK_0, a_setVK_1, a_setVK_2, a_setVK_3, a_setVK_4, a_setVK_5, a_c, a_var, a_varK_0, a_varK_1, a_bin, a_binK_0, a_binK_1, a_binK_2, a_binK_3, a_oE_0, a_oE_1, a_un, a_unK_0, a_unK_1, a_unK_2, a_unK_3, a_test, a_tru, a_not, a_asB_0, a_asB_1, a_asB_2, a_asB_3, a_lst_0, a_lst_1, a_and, a_or, a_andK_0, a_andK_1, a_andK_2, a_andK_3, a_andK_4, a_andK_5, a_dIf, a_tand, a_tor, a_tnot, a_ifK_0, a_ifK_1, a_ifK_2, a_ifK_3, a_ifK_4, a_cons, a_consK_0, a_consK_1, a_consK_2, a_consK_3, a_consK_4, a_refA, a_refK_0, a_refK_1, a_refK_2, a_cb, a_tup, a_dLst, a_vals0, a_vals1, a_vals2, a_vals3, a_vals4, call_eq, callO_eq, a_call1, a_call2, a_call3, a_call4, a_rf0, a_rf1, a_rf2, a_rfK_0, a_rfK_1, a_rfK_2, a_end0_0, a_end0_1, a_end0_2, a_end0_3, a_end1, a_put1_0, a_put1_1, a_look, a_lkK_0, a_lkK_1, a_lkK_2, a_ixV, a_ixK_0, a_ixK_1, a_ixK_2, a_lenV, a_truV, a_len_0, a_len_1, a_len_2, a_len_3, a_len_4, a_it, a_rg1, a_rgL, a_en, a_zp, a_itK_0, a_itK_1, a_itK_2, a_itE_0, a_itE_1, a_comp, a_compK_0, a_compK_1, a_isi, a_gI_0, a_gI_1, a_gI_2, List.getElem?_cons_zero, List.getElem?_cons_succ, List.set_cons_zero, List.set_cons_succ, Option.bind_some, Option.map_some, f_nil, f_cons, f_some, f_nx, f_ct, f_bk, f_rt, f_ex, a_putV, a_pv0, a_pv1, a_put, a_sp0, a_sp1, a_sp2, a_sp3, a_sp4, a_app, a_sa1, a_sa2, a_aug, a_au1, a_au2, a_au3, gEq_int, gNe_int, ct_rf, ct_own, if_true, if_false, Bool.false_eq_true, a_try, a_tryK_0, a_tryK_1, a_tryK_2, a_tryH_0, a_tryH_1, a_tryK2_0, a_tryK2_1, a_hdS_0, a_hdS_1, a_compX, a_compKX_0, a_fld, a_meth, a_prop, a_propK, a_propE, a_make, a_makeK, a_makeE, a_putF, a_pfK, a_lkv, a_lkvK, a_dct1, a_dct1K, a_dct1K2, a_dct2, a_key, a_putK, a_pk0, a_pk1, a_pk2, a_rg2, a_rg2K, a_rg2K2, a_oL, fld_st, c, k, s]
  rfl
theorem andnot (a b : Nat) : Builtin.bitAnd (a : Int) (Builtin.bitNot (b : Int)) = ((a - (a &&& b) : Nat) : Int) := by
  rw [bitAnd_not, band]
  have : a &&& b ≤ a := Nat.and_le_left
  omega
theorem blurring_ev (q : Bool) {v : Nat} {ms : List Nat} (F : Fam v ms) (h1 : 1 ≤ v) (h2 : v ≤ 6) {r : List Nat} (hr : Good v r) {l : Nat} (hl : l < 2 ^ v) :
    fn_blurring_lot [gl v ms, sq q (rowD r), .int (l : Int)] = .ret (.int ((Rd v ms l - (Rd v ms l &&& Bk r (Rd v ms (Nx r l))) : Nat) : Int)) [] := by
  have c := crow_ev q v r h1 h2 hr
  have k := lot_ok v l h1 h2 hl
  have n1 : fn_next_lot [.tup (rowD r), .int (l : Int)] = .ret (.int (Nx r l : Nat)) [] := next_ev true r l
  have g0 := ground_ev F h1 h2 hl
  have g1 := ground_ev F h1 h2 (nx_lt (r := r) (l := l) hr.2)
  have b1 : fn_back_lot [.tup (rowD r), .int ((Rd v ms (Nx r l) : Nat) : Int)] = .ret (.int (Bk r (Rd v ms (Nx r l)) : Nat)) [] := back_ev true r _ (by have := hr.1; omega)
  rw [o_blurring_lot]
  simp -implicitDefEqProofs only [F_blurring_lot, a_seq, a_expr, a_ret, a_retO, a_set, a_setO, a_if, a_unp, a_for, a_nil, a_retN, a_then_0, a_then_1, a_then_2, a_then_3, a_sK_0, a_sK_1, a_ifS_0, a_ifS_1, a_ifS_2, a_k_0, a_k_1, a_k_2, a_k_3, a_k_4, a_k_5, a_k_6, a_setV, a_setOd, a_setVK_0, a_setVK_1, a_setVK_2, a_setVK_3, a_setVK_4, a_setVK_5, a_c, a_var, a_varK_0, a_varK_1, a_bin, a_binK_0, a_binK_1, a_binK_2, a_binK_3, a_oE_0, a_oE_1, a_un, a_unK_0, a_unK_1, a_unK_2, a_unK_3, a_test, a_tru, a_not, a_asB_0, a_asB_1, a_asB_2, a_asB_3, a_lst_0, a_lst_1, a_and, a_or, a_andK_0, a_andK_1, a_andK_2, a_andK_3, a_andK_4, a_andK_5, a_dIf, a_tand, a_tor, a_tnot, a_ifK_0, a_ifK_1, a_ifK_2, a_ifK_3, a_ifK_4, a_cons, a_consK_0, a_consK_1, a_consK_2, a_consK_3, a_consK_4, a_refA, a_refK_0, a_refK_1, a_refK_2, a_cb, a_tup, a_dLst, a_vals0, a_vals1, a_vals2, a_vals3, a_vals4, call_eq, callO_eq, a_call1, a_call2, a_call3, a_call4, a_rf0, a_rf1, a_rf2, a_rfK_0, a_rfK_1, a_rfK_2, a_end0_0, a_end0_1, a_end0_2, a_end0_3, a_end1, a_put1_0, a_put1_1, a_look, a_lkK_0, a_lkK_1, a_lkK_2, a_ixV, a_ixK_0, a_ixK_1, a_ixK_2, a_lenV, a_truV, a_len_0, a_len_1, a_len_2, a_len_3, a_len_4, a_it, a_rg1, a_rgL, a_en, a_zp, a_itK_0, a_itK_1, a_itK_2, a_itE_0, a_itE_1, a_comp, a_compK_0, a_compK_1, a_isi, a_gI_0, a_gI_1, a_gI_2, List.getElem?_cons_zero, List.getElem?_cons_succ, List.set_cons_zero, List.set_cons_succ, Option.bind_some, Option.map_some, f_nil, f_cons, f_some, f_nx, f_ct, f_bk, f_rt, f_ex, a_putV, a_pv0, a_pv1, a_put, a_sp0, a_sp1, a_sp2, a_sp3, a_sp4, a_app, a_sa1, a_sa2, a_aug, a_au1, a_au2, a_au3, gEq_int, gNe_int, ct_rf, ct_own, if_true, if_false, Bool.false_eq_true, a_try, a_tryK_0, a_tryK_1, a_tryK_2, a_tryH_0, a_tryH_1, a_tryK2_0, a_tryK2_1, a_hdS_0, a_hdS_1, a_compX, a_compKX_0, a_fld, a_meth, a_prop, a_propK, a_propE, a_make, a_makeK, a_makeE, a_putF, a_pfK, a_lkv, a_lkvK, a_dct1, a_dct1K, a_dct1K2, a_dct2, a_key, a_putK, a_pk0, a_pk1, a_pk2, a_rg2, a_rg2K, a_rg2K2, a_oL, fld_st, c, k, rcv_rd, n1, g1, g0, b1, un_not, andnot]
  rfl
end LW

set_option maxRecDepth 100000
set_option maxHeartbeats 2000000
namespace LW
open PySem PySem.Spec PyProof.Rows L2 DL
/-! ### law k19 -/
theorem filter_ix (P : Nat → Bool) (ms : List Nat) : ((List.range ms.length).filter fun k => P (ms.getD k 0)).map (fun k => ms.getD k 0) = ms.filter P := by
  have e : (List.range ms.length).map (fun k => ms.getD k 0) = ms := by
    refine List.ext_getElem (by simp) fun i h1 h2 => ?_
    simp [List.getD_eq_getElem?_getD, List.getElem?_eq_getElem h2]
  have q := List.filter_map (f := fun k => ms.getD k 0) (p := P) (l := List.range ms.length)
  rw [e] at q
  rw [q]; rfl
def Sh (v : Nat) (ms r : List Nat) (l : Nat) : Bool := decide (Rd v ms (Nx r l) = Rd v ms (Nx r (Rd v ms l)))
def shD (v : Nat) (ms r : List Nat) : D → D
  | .int i => .bl (Sh v ms r i.toNat)
  | d => d
theorem shD_int (v : Nat) (ms r : List Nat) (l : Nat) : shD v ms r (.int (l : Int)) = .bl (Sh v ms r l) := by
  show D.bl (Sh v ms r ((l : Int)).toNat) = _
  rw [Int.toNat_natCast]
def Ap (v : Nat) (ms r : List Nat) (l : Nat) (m : Nat) : Bool := decide (l &&& Bk r m = l) && !decide (Rd v ms l &&& Bk r m = Rd v ms l)
structure Wd where
  ns : List Int
  d : D
  v : Nat
  ms : List Nat
  r : List Nat
  q : Bool
abbrev Wd.rs (w : Wd) : List Nat := (List.range (2 ^ w.v)).map (Rd w.v w.ms)
abbrev Wd.bs (w : Wd) : List Nat := w.ms.map (Bk w.r)
abbrev Wd.env (w : Wd) (t : List D) (s10 s11 s12 s13 s14 s15 s16 s17 s18 : Sl) : DEnv :=
  [.val (.scr w.ns), .own w.d, .val (.int (w.v : Int)), .val (.lst (rowD w.ms)), .val (.lst (rowD w.r)), .val (gl w.v w.ms), .val (sq w.q (rowD w.r)), .val (.lst (rowD w.rs)), .val (.lst (rowD w.bs)), .own (.lst t), s10, s11, s12, s13, s14, s15, s16, s17, s18]
abbrev Wd.blk (w : Wd) (t : List D) (s10 s11 s12 s13 s14 s15 s16 s17 s18 : Sl) : DEnv :=
  [.val (.scr w.ns), .rf w.d, .val (.int (w.v : Int)), .val (.lst (rowD w.ms)), .val (.lst (rowD w.r)), .val (gl w.v w.ms), .val (sq w.q (rowD w.r)), .val (.lst (rowD w.rs)), .val (.lst (rowD w.bs)), .rf (.lst t), s10, s11, s12, s13, s14, s15, s16, s17, s18]
structure WOk (w : Wd) : Prop where
  h1 : 1 ≤ w.v
  h2 : w.v ≤ 6
  F : Fam w.v w.ms
  g : Good w.v w.r
theorem ap_st {w : Wd} (o : WOk w) (t : List D) (l : Nat) (hl : l < 2 ^ w.v) (a b c : D) (s14 : Sl) (h14 : Pv s14) :
    compL (setV 18) Q_law_0 E_law_1 [18] (rgF 0 w.ms.length) (w.env t (.val (.int (l : Int))) (.val a) (.val b) (.val c) s14 .un .un .un .un) [] = .ok (.lst (rowD (w.ms.filter (Ap w.v w.ms w.r l)))) (w.env t (.val (.int (l : Int))) (.val a) (.val b) (.val c) s14 .un .un .un .un) := by
  have hm := o.F.len
  have hp := pow_le o.h2
  have e := comp_map (setV 18) Q_law_0 E_law_1 [18] (δ := w.env t (.val (.int (l : Int))) (.val a) (.val b) (.val c) s14 .un .un .un .un) (fun d => match d with | .int i => Ap w.v w.ms w.r l (w.ms.getD i.toNat 0) | _ => false) (ofN fun k => w.ms.getD k 0) (by rcases h14 with rfl | ⟨x, rfl⟩ <;> rfl) (rgF 0 w.ms.length) [] (by rw [rgF_len]; exact le_line (by show 0 + w.ms.length ≤ _; omega)) fun d hd => by
    obtain ⟨k, hk, rfl⟩ := mem_rgF hd
    have gk : w.ms.getD k 0 = w.ms[k] := by rw [List.getD_eq_getElem?_getD, List.getElem?_eq_getElem hk]; rfl
    refine ⟨w.blk t (.val (.int (l : Int))) (.val a) (.val b) (.val c) s14 .un .un .un (.val (.int (k : Int))), w.blk t (.val (.int (l : Int))) (.val a) (.val b) (.val c) s14 .un .un .un (.val (.int (k : Int))), by rcases h14 with rfl | ⟨x, rfl⟩ <;> rfl, ?_, fun _ => by rcases h14 with rfl | ⟨x, rfl⟩ <;> rfl, fun _ => ⟨w.blk t (.val (.int (l : Int))) (.val a) (.val b) (.val c) s14 .un .un .un (.val (.int (k : Int))), ?_, by rcases h14 with rfl | ⟨x, rfl⟩ <;> rfl⟩⟩
    · have ib : idxD (.lst (rowD w.bs)) (.int (k : Int)) = some (.int ((Bk w.r w.ms[k] : Nat) : Int)) := ix_row false (by rw [List.getElem?_map, List.getElem?_eq_getElem hk]; rfl)
      have ir := ix_range (n := 2 ^ w.v) (Rd w.v w.ms) hl
      have w1 := within_ev l (Bk w.r w.ms[k])
      have w2 := within_ev (Rd w.v w.ms l) (Bk w.r w.ms[k])
      show Q_law_0 _ = EO.ok (Ap w.v w.ms w.r l (w.ms.getD ((k : Int)).toNat 0)) _
      rw [Int.toNat_natCast, gk]
      unfold Ap
      cases hq : decide (l &&& Bk w.r w.ms[k] = l)
      · rw [hq] at w1
        simp -implicitDefEqProofs only [Q_law_0, a_seq, a_expr, a_ret, a_retO, a_set, a_setO, a_if, a_unp, a_for, a_nil, a_retN, a_then_0, a_then_1, a_then_2, a_then_3, a_sK_0, a_sK_1, a_ifS_0, a_ifS_1, a_ifS_2, a_k_0, a_k_1, a_k_2, a_k_3, a_k_4, a_k_5, a_k_6, a_setV, a_setOd, a_setVK_0, a_setVK_1, a_setVK_2, a_setVK_3, a_setVK_4, a_setVK_5, a_c, a_var, a_varK_0, a_varK_1, a_bin, a_binK_0, a_binK_1, a_binK_2, a_binK_3, a_oE_0, a_oE_1, a_un, a_unK_0, a_unK_1, a_unK_2, a_unK_3, a_test, a_tru, a_not, a_asB_0, a_asB_1, a_asB_2, a_asB_3, a_lst_0, a_lst_1, a_and, a_or, a_andK_0, a_andK_1, a_andK_2, a_andK_3, a_andK_4, a_andK_5, a_dIf, a_tand, a_tor, a_tnot, a_ifK_0, a_ifK_1, a_ifK_2, a_ifK_3, a_ifK_4, a_cons, a_consK_0, a_consK_1, a_consK_2, a_consK_3, a_consK_4, a_refA, a_refK_0, a_refK_1, a_refK_2, a_cb, a_tup, a_dLst, a_vals0, a_vals1, a_vals2, a_vals3, a_vals4, call_eq, callO_eq, a_call1, a_call2, a_call3, a_call4, a_rf0, a_rf1, a_rf2, a_rfK_0, a_rfK_1, a_rfK_2, a_end0_0, a_end0_1, a_end0_2, a_end0_3, a_end1, a_put1_0, a_put1_1, a_look, a_lkK_0, a_lkK_1, a_lkK_2, a_ixV, a_ixK_0, a_ixK_1, a_ixK_2, a_lenV, a_truV, a_len_0, a_len_1, a_len_2, a_len_3, a_len_4, a_it, a_rg1, a_rgL, a_en, a_zp, a_itK_0, a_itK_1, a_itK_2, a_itE_0, a_itE_1, a_comp, a_compK_0, a_compK_1, a_isi, a_gI_0, a_gI_1, a_gI_2, List.getElem?_cons_zero, List.getElem?_cons_succ, List.set_cons_zero, List.set_cons_succ, Option.bind_some, Option.map_some, f_nil, f_cons, f_some, f_nx, f_ct, f_bk, f_rt, f_ex, a_putV, a_pv0, a_pv1, a_put, a_sp0, a_sp1, a_sp2, a_sp3, a_sp4, a_app, a_sa1, a_sa2, a_aug, a_au1, a_au2, a_au3, gEq_int, gNe_int, ct_rf, ct_own, if_true, if_false, Bool.false_eq_true, a_try, a_tryK_0, a_tryK_1, a_tryK_2, a_tryH_0, a_tryH_1, a_tryK2_0, a_tryK2_1, a_hdS_0, a_hdS_1, a_compX, a_compKX_0, a_fld, a_meth, a_prop, a_propK, a_propE, a_make, a_makeK, a_makeE, a_putF, a_pfK, a_lkv, a_lkvK, a_dct1, a_dct1K, a_dct1K2, a_dct2, a_key, a_putK, a_pk0, a_pk1, a_pk2, a_rg2, a_rg2K, a_rg2K2, a_oL, ib, ir, w1, Bool.false_and]
      · rw [hq] at w1
        simp -implicitDefEqProofs only [Q_law_0, a_seq, a_expr, a_ret, a_retO, a_set, a_setO, a_if, a_unp, a_for, a_nil, a_retN, a_then_0, a_then_1, a_then_2, a_then_3, a_sK_0, a_sK_1, a_ifS_0, a_ifS_1, a_ifS_2, a_k_0, a_k_1, a_k_2, a_k_3, a_k_4, a_k_5, a_k_6, a_setV, a_setOd, a_setVK_0, a_setVK_1, a_setVK_2, a_setVK_3, a_setVK_4, a_setVK_5, a_c, a_var, a_varK_0, a_varK_1, a_bin, a_binK_0, a_binK_1, a_binK_2, a_binK_3, a_oE_0, a_oE_1, a_un, a_unK_0, a_unK_1, a_unK_2, a_unK_3, a_test, a_tru, a_not, a_asB_0, a_asB_1, a_asB_2, a_asB_3, a_lst_0, a_lst_1, a_and, a_or, a_andK_0, a_andK_1, a_andK_2, a_andK_3, a_andK_4, a_andK_5, a_dIf, a_tand, a_tor, a_tnot, a_ifK_0, a_ifK_1, a_ifK_2, a_ifK_3, a_ifK_4, a_cons, a_consK_0, a_consK_1, a_consK_2, a_consK_3, a_consK_4, a_refA, a_refK_0, a_refK_1, a_refK_2, a_cb, a_tup, a_dLst, a_vals0, a_vals1, a_vals2, a_vals3, a_vals4, call_eq, callO_eq, a_call1, a_call2, a_call3, a_call4, a_rf0, a_rf1, a_rf2, a_rfK_0, a_rfK_1, a_rfK_2, a_end0_0, a_end0_1, a_end0_2, a_end0_3, a_end1, a_put1_0, a_put1_1, a_look, a_lkK_0, a_lkK_1, a_lkK_2, a_ixV, a_ixK_0, a_ixK_1, a_ixK_2, a_lenV, a_truV, a_len_0, a_len_1, a_len_2, a_len_3, a_len_4, a_it, a_rg1, a_rgL, a_en, a_zp, a_itK_0, a_itK_1, a_itK_2, a_itE_0, a_itE_1, a_comp, a_compK_0, a_compK_1, a_isi, a_gI_0, a_gI_1, a_gI_2, List.getElem?_cons_zero, List.getElem?_cons_succ, List.set_cons_zero, List.set_cons_succ, Option.bind_some, Option.map_some, f_nil, f_cons, f_some, f_nx, f_ct, f_bk, f_rt, f_ex, a_putV, a_pv0, a_pv1, a_put, a_sp0, a_sp1, a_sp2, a_sp3, a_sp4, a_app, a_sa1, a_sa2, a_aug, a_au1, a_au2, a_au3, gEq_int, gNe_int, ct_rf, ct_own, if_true, if_false, Bool.false_eq_true, a_try, a_tryK_0, a_tryK_1, a_tryK_2, a_tryH_0, a_tryH_1, a_tryK2_0, a_tryK2_1, a_hdS_0, a_hdS_1, a_compX, a_compKX_0, a_fld, a_meth, a_prop, a_propK, a_propE, a_make, a_makeK, a_makeE, a_putF, a_pfK, a_lkv, a_lkvK, a_dct1, a_dct1K, a_dct1K2, a_dct2, a_key, a_putK, a_pk0, a_pk1, a_pk2, a_rg2, a_rg2K, a_rg2K2, a_oL, ib, ir, w1, w2, Bool.true_and]
    · have im : idxD (.lst (rowD w.ms)) (.int (k : Int)) = some (.int ((w.ms[k] : Nat) : Int)) := ix_row false (List.getElem?_eq_getElem hk)
      rw [ofN_int, gk]
      simp -implicitDefEqProofs only [E_law_1, a_seq, a_expr, a_ret, a_retO, a_set, a_setO, a_if, a_unp, a_for, a_nil, a_retN, a_then_0, a_then_1, a_then_2, a_then_3, a_sK_0, a_sK_1, a_ifS_0, a_ifS_1, a_ifS_2, a_k_0, a_k_1, a_k_2, a_k_3, a_k_4, a_k_5, a_k_6, a_setV, a_setOd, a_setVK_0, a_setVK_1, a_setVK_2, a_setVK_3, a_setVK_4, a_setVK_5, a_c, a_var, a_varK_0, a_varK_1, a_bin, a_binK_0, a_binK_1, a_binK_2, a_binK_3, a_oE_0, a_oE_1, a_un, a_unK_0, a_unK_1, a_unK_2, a_unK_3, a_test, a_tru, a_not, a_asB_0, a_asB_1, a_asB_2, a_asB_3, a_lst_0, a_lst_1, a_and, a_or, a_andK_0, a_andK_1, a_andK_2, a_andK_3, a_andK_4, a_andK_5, a_dIf, a_tand, a_tor, a_tnot, a_ifK_0, a_ifK_1, a_ifK_2, a_ifK_3, a_ifK_4, a_cons, a_consK_0, a_consK_1, a_consK_2, a_consK_3, a_consK_4, a_refA, a_refK_0, a_refK_1, a_refK_2, a_cb, a_tup, a_dLst, a_vals0, a_vals1, a_vals2, a_vals3, a_vals4, call_eq, callO_eq, a_call1, a_call2, a_call3, a_call4, a_rf0, a_rf1, a_rf2, a_rfK_0, a_rfK_1, a_rfK_2, a_end0_0, a_end0_1, a_end0_2, a_end0_3, a_end1, a_put1_0, a_put1_1, a_look, a_lkK_0, a_lkK_1, a_lkK_2, a_ixV, a_ixK_0, a_ixK_1, a_ixK_2, a_lenV, a_truV, a_len_0, a_len_1, a_len_2, a_len_3, a_len_4, a_it, a_rg1, a_rgL, a_en, a_zp, a_itK_0, a_itK_1, a_itK_2, a_itE_0, a_itE_1, a_comp, a_compK_0, a_compK_1, a_isi, a_gI_0, a_gI_1, a_gI_2, List.getElem?_cons_zero, List.getElem?_cons_succ, List.set_cons_zero, List.set_cons_succ, Option.bind_some, Option.map_some, f_nil, f_cons, f_some, f_nx, f_ct, f_bk, f_rt, f_ex, a_putV, a_pv0, a_pv1, a_put, a_sp0, a_sp1, a_sp2, a_sp3, a_sp4, a_app, a_sa1, a_sa2, a_aug, a_au1, a_au2, a_au3, gEq_int, gNe_int, ct_rf, ct_own, if_true, if_false, Bool.false_eq_true, a_try, a_tryK_0, a_tryK_1, a_tryK_2, a_tryH_0, a_tryH_1, a_tryK2_0, a_tryK2_1, a_hdS_0, a_hdS_1, a_compX, a_compKX_0, a_fld, a_meth, a_prop, a_propK, a_propE, a_make, a_makeK, a_makeE, a_putF, a_pfK, a_lkv, a_lkvK, a_dct1, a_dct1K, a_dct1K2, a_dct2, a_key, a_putK, a_pk0, a_pk1, a_pk2, a_rg2, a_rg2K, a_rg2K2, a_oL, im]
  rw [e, List.nil_append]
  congr 2
  rw [← filter_ix (Ap w.v w.ms w.r l) w.ms]
  unfold rgF rowD
  rw [List.filter_map, List.map_map, List.map_map, List.range_eq_range']
  refine List.map_congr_left fun k _ => ?_
  exact ofN_int _ k
theorem ap_sharp {w : Wd} (o : WOk w) {l : Nat} (hl : l < 2 ^ w.v) (hs : Sh w.v w.ms w.r l = true) : Rd w.v w.ms l - (Rd w.v w.ms l &&& Bk w.r (Rd w.v w.ms (Nx w.r l))) = 0 ∧ w.ms.filter (Ap w.v w.ms w.r l) = [] := by
  have e := of_decide_eq_true hs
  have wi := (sharp_wi o.F o.g.1 o.g.2 hl).mp e
  have wi' : Rd w.v w.ms l &&& Bk w.r (Rd w.v w.ms (Nx w.r l)) = Rd w.v w.ms l := wi
  refine ⟨by rw [wi']; omega, List.filter_eq_nil_iff.mpr fun m hm h => ?_⟩
  unfold Ap at h
  rw [Bool.and_eq_true, decide_eq_true_eq, Bool.not_eq_true', decide_eq_false_iff_not] at h
  have h1 := (apart_iff o.F o.g.1 o.g.2 hl hm).mp h.1
  refine h.2 ((adj (by rw [o.g.1]; exact Rd_lt o.F l)).mp (wi_trans ?_ h1))
  rw [e]
  exact Rd_up (nx_lt o.g.2)
theorem ap_blur {w : Wd} (o : WOk w) {l : Nat} (hl : l < 2 ^ w.v) (hs : Sh w.v w.ms w.r l = false) : Rd w.v w.ms l - (Rd w.v w.ms l &&& Bk w.r (Rd w.v w.ms (Nx w.r l))) ≠ 0 ∧ ∃ t, w.ms.filter (Ap w.v w.ms w.r l) = Rd w.v w.ms (Nx w.r l) :: t := by
  have e := of_decide_eq_false hs
  have wi : ¬ Wi (Rd w.v w.ms l) (Bk w.r (Rd w.v w.ms (Nx w.r l))) := fun z => e ((sharp_wi o.F o.g.1 o.g.2 hl).mpr z)
  refine ⟨fun z => wi ?_, ?_⟩
  · have h : Rd w.v w.ms l &&& Bk w.r (Rd w.v w.ms (Nx w.r l)) ≤ Rd w.v w.ms l := Nat.and_le_left
    show Rd w.v w.ms l &&& Bk w.r (Rd w.v w.ms (Nx w.r l)) = Rd w.v w.ms l
    omega
  · have hn : Rd w.v w.ms (Nx w.r l) ∈ w.ms.filter (Ap w.v w.ms w.r l) := by
      refine List.mem_filter.mpr ⟨Rd_mem o.F _, ?_⟩
      unfold Ap
      rw [Bool.and_eq_true, decide_eq_true_eq, Bool.not_eq_true', decide_eq_false_iff_not]
      exact ⟨(apart_iff o.F o.g.1 o.g.2 hl (Rd_mem o.F _)).mpr (wi_refl _), wi⟩
    have hl2 : ∀ m ∈ w.ms.filter (Ap w.v w.ms w.r l), Rd w.v w.ms (Nx w.r l) ≤ m := fun m hm => by
      obtain ⟨h1, h2⟩ := List.mem_filter.mp hm
      unfold Ap at h2
      rw [Bool.and_eq_true, decide_eq_true_eq] at h2
      exact wi_le ((apart_iff o.F o.g.1 o.g.2 hl h1).mp h2.1)
    have asc : (w.ms.filter (Ap w.v w.ms w.r l)).Pairwise (· < ·) := o.F.asc.filter _
    cases q : w.ms.filter (Ap w.v w.ms w.r l) with
    | nil => rw [q] at hn; cases hn
    | cons x t =>
      rw [q] at hn hl2 asc
      have h1 := hl2 x List.mem_cons_self
      rcases List.mem_cons.mp hn with e | hn
      · exact ⟨t, by rw [e]⟩
      · have := (List.pairwise_cons.mp asc).1 _ hn
        omega
theorem body0 {w : Wd} (o : WOk w) (t : List D) (ht : t.length ≤ 64) (l : Nat) (hl : l < 2 ^ w.v) (s11 s12 s13 s14 : Sl) (h11 : Pv s11) (h12 : Pv s12) (h13 : Pv s13) (h14 : Pv s14) : ∃ a b c d, B_law_0 (w.env t (.val (.int (l : Int))) s11 s12 s13 s14 .un .un .un .un) = .nx (w.env (t ++ [.bl (Sh w.v w.ms w.r l)]) (.val (.int (l : Int))) (.val a) (.val b) (.val c) (.val d) .un .un .un .un) := by
  have hr63 : w.r.length ≤ 63 := by have := o.g.1; have := o.h2; omega
  have e1 : fn_sharp_at [gl w.v w.ms, sq w.q (rowD w.r), .int (l : Int)] = .ret (.bl (Sh w.v w.ms w.r l)) [] := sharpat_ev w.q o.F o.h1 o.h2 o.g hl
  have e2 : fn__law_alike [.lst (rowD w.rs), .lst (rowD w.r), .int (l : Int)] = .ret (.bl (Sh w.v w.ms w.r l)) [] := alike_ev o.F o.h2 o.g hl
  have e3 := exact_bl 3 (Sh w.v w.ms w.r l)
  have lz : t.length < sizeLine := by rw [sizeLine_eq]; omega
  have sa : ∀ δ v, saK3 9 v δ (some (.lst t)) = oNx (putV 9 (.lst (t ++ [v])) δ) := fun δ v => a_sa3 _ _ _ _ lz
  have n1 : fn__law_next [.lst (rowD w.r), .int (l : Int)] = .ret (.int (Nx w.r l : Nat)) [] := lnext_ev w.r l hr63
  have i0 := ix_range (n := 2 ^ w.v) (Rd w.v w.ms) hl
  have i1 := ix_range (n := 2 ^ w.v) (Rd w.v w.ms) (nx_lt (r := w.r) (l := l) o.g.2)
  have b1 : fn__law_back [.lst (rowD w.r), .int ((Rd w.v w.ms (Nx w.r l) : Nat) : Int)] = .ret (.int (Bk w.r (Rd w.v w.ms (Nx w.r l)) : Nat)) [] := lback_ev w.r _ hr63
  have bl := blurring_ev w.q o.F o.h1 o.h2 o.g hl
  have sb : ((Rd w.v w.ms l : Nat) : Int) - ((Rd w.v w.ms l &&& Bk w.r (Rd w.v w.ms (Nx w.r l)) : Nat) : Int) = ((Rd w.v w.ms l - (Rd w.v w.ms l &&& Bk w.r (Rd w.v w.ms (Nx w.r l))) : Nat) : Int) := by
    have : Rd w.v w.ms l &&& Bk w.r (Rd w.v w.ms (Nx w.r l)) ≤ Rd w.v w.ms l := Nat.and_le_left
    omega
  have e4 := exact_int 3 ((Rd w.v w.ms l - (Rd w.v w.ms l &&& Bk w.r (Rd w.v w.ms (Nx w.r l))) : Nat) : Int)
  have ln := len_l (rowD w.ms)
  rw [row_len] at ln
  have hm := o.F.len
  have hp := pow_le o.h2
  have it := itF w.ms.length (by omega)
  have ap := ap_st o (t ++ [.bl (Sh w.v w.ms w.r l)]) l hl (.bl (Sh w.v w.ms w.r l)) (.int ((Rd w.v w.ms (Nx w.r l) : Nat) : Int)) (.int ((Rd w.v w.ms l - (Rd w.v w.ms l &&& Bk w.r (Rd w.v w.ms (Nx w.r l))) : Nat) : Int)) s14 h14
  cases hs : Sh w.v w.ms w.r l with
  | true =>
    obtain ⟨z1, z2⟩ := ap_sharp o hl hs
    rw [hs] at e1 e2 e3 ap
    rw [z1] at sb e4 bl ap
    rw [z2] at ap
    have q1 : gEq false (.lst (rowD [])) (.lst []) = some (.bl true) := gEq_lst false [] []
    have q2 : gEq true (.lst (rowD [])) (.lst []) = some (.bl false) := gEq_lst true [] []
    have z0 : (((0 : Nat) : Int) == 0) = true := rfl
    refine ⟨.bl true, .int ((Rd w.v w.ms (Nx w.r l) : Nat) : Int), .int ((0 : Nat) : Int), .lst (rowD []), ?_⟩
    simp -implicitDefEqProofs only [B_law_0, a_seq, a_expr, a_ret, a_retO, a_set, a_setO, a_if, a_unp, a_for, a_nil, a_retN, a_then_0, a_then_1, a_then_2, a_then_3, a_sK_0, a_sK_1, a_ifS_0, a_ifS_1, a_ifS_2, a_k_0, a_k_1, a_k_2, a_k_3, a_k_4, a_k_5, a_k_6, a_setV, a_setOd, a_setVK_0, a_setVK_1, a_setVK_2, a_setVK_3, a_setVK_4, a_setVK_5, a_c, a_var, a_varK_0, a_varK_1, a_bin, a_binK_0, a_binK_1, a_binK_2, a_binK_3, a_oE_0, a_oE_1, a_un, a_unK_0, a_unK_1, a_unK_2, a_unK_3, a_test, a_tru, a_not, a_asB_0, a_asB_1, a_asB_2, a_asB_3, a_lst_0, a_lst_1, a_and, a_or, a_andK_0, a_andK_1, a_andK_2, a_andK_3, a_andK_4, a_andK_5, a_dIf, a_tand, a_tor, a_tnot, a_ifK_0, a_ifK_1, a_ifK_2, a_ifK_3, a_ifK_4, a_cons, a_consK_0, a_consK_1, a_consK_2, a_consK_3, a_consK_4, a_refA, a_refK_0, a_refK_1, a_refK_2, a_cb, a_tup, a_dLst, a_vals0, a_vals1, a_vals2, a_vals3, a_vals4, call_eq, callO_eq, a_call1, a_call2, a_call3, a_call4, a_rf0, a_rf1, a_rf2, a_rfK_0, a_rfK_1, a_rfK_2, a_end0_0, a_end0_1, a_end0_2, a_end0_3, a_end1, a_put1_0, a_put1_1, a_look, a_lkK_0, a_lkK_1, a_lkK_2, a_ixV, a_ixK_0, a_ixK_1, a_ixK_2, a_lenV, a_truV, a_len_0, a_len_1, a_len_2, a_len_3, a_len_4, a_it, a_rg1, a_rgL, a_en, a_zp, a_itK_0, a_itK_1, a_itK_2, a_itE_0, a_itE_1, a_comp, a_compK_0, a_compK_1, a_isi, a_gI_0, a_gI_1, a_gI_2, List.getElem?_cons_zero, List.getElem?_cons_succ, List.set_cons_zero, List.set_cons_succ, Option.bind_some, Option.map_some, f_nil, f_cons, f_some, f_nx, f_ct, f_bk, f_rt, f_ex, a_putV, a_pv0, a_pv1, a_put, a_sp0, a_sp1, a_sp2, a_sp3, a_sp4, a_app, a_sa1, a_sa2, a_aug, a_au1, a_au2, a_au3, gEq_int, gNe_int, ct_rf, ct_own, if_true, if_false, Bool.false_eq_true, a_try, a_tryK_0, a_tryK_1, a_tryK_2, a_tryH_0, a_tryH_1, a_tryK2_0, a_tryK2_1, a_hdS_0, a_hdS_1, a_compX, a_compKX_0, a_fld, a_meth, a_prop, a_propK, a_propE, a_make, a_makeK, a_makeE, a_putF, a_pfK, a_lkv, a_lkvK, a_dct1, a_dct1K, a_dct1K2, a_dct2, a_key, a_putK, a_pk0, a_pk1, a_pk2, a_rg2, a_rg2K, a_rg2K2, a_oL, set_nr (pv_nr h11), set_nr (pv_nr h12), set_nr (pv_nr h13), set_nr (pv_nr h14), e1, e2, e3, Bool.not_true, sa, n1, i0, i1, b1, band, sb, bl, e4, z0, gNe_bl, beq_self_eq_true, row_len, it, ap, gLst0, q1, q2]
  | false =>
    obtain ⟨z1, tl, z2⟩ := ap_blur o hl hs
    rw [hs] at e1 e2 e3 ap
    rw [z2] at ap
    have q1 : gEq false (.lst (rowD (Rd w.v w.ms (Nx w.r l) :: tl))) (.lst []) = some (.bl false) := gEq_lst false _ []
    have q2 : gEq true (.lst (rowD (Rd w.v w.ms (Nx w.r l) :: tl))) (.lst []) = some (.bl true) := gEq_lst true _ []
    have q3 : idxD (.lst (rowD (Rd w.v w.ms (Nx w.r l) :: tl))) (.int 0) = some (.int ((Rd w.v w.ms (Nx w.r l) : Nat) : Int)) := ix_row false (i := 0) rfl
    have z0 : (((Rd w.v w.ms l - (Rd w.v w.ms l &&& Bk w.r (Rd w.v w.ms (Nx w.r l))) : Nat) : Int) == 0) = false := eqn _ 0 z1
    refine ⟨.bl false, .int ((Rd w.v w.ms (Nx w.r l) : Nat) : Int), .int ((Rd w.v w.ms l - (Rd w.v w.ms l &&& Bk w.r (Rd w.v w.ms (Nx w.r l))) : Nat) : Int), .lst (rowD (Rd w.v w.ms (Nx w.r l) :: tl)), ?_⟩
    simp -implicitDefEqProofs only [B_law_0, a_seq, a_expr, a_ret, a_retO, a_set, a_setO, a_if, a_unp, a_for, a_nil, a_retN, a_then_0, a_then_1, a_then_2, a_then_3, a_sK_0, a_sK_1, a_ifS_0, a_ifS_1, a_ifS_2, a_k_0, a_k_1, a_k_2, a_k_3, a_k_4, a_k_5, a_k_6, a_setV, a_setOd, a_setVK_0, a_setVK_1, a_setVK_2, a_setVK_3, a_setVK_4, a_setVK_5, a_c, a_var, a_varK_0, a_varK_1, a_bin, a_binK_0, a_binK_1, a_binK_2, a_binK_3, a_oE_0, a_oE_1, a_un, a_unK_0, a_unK_1, a_unK_2, a_unK_3, a_test, a_tru, a_not, a_asB_0, a_asB_1, a_asB_2, a_asB_3, a_lst_0, a_lst_1, a_and, a_or, a_andK_0, a_andK_1, a_andK_2, a_andK_3, a_andK_4, a_andK_5, a_dIf, a_tand, a_tor, a_tnot, a_ifK_0, a_ifK_1, a_ifK_2, a_ifK_3, a_ifK_4, a_cons, a_consK_0, a_consK_1, a_consK_2, a_consK_3, a_consK_4, a_refA, a_refK_0, a_refK_1, a_refK_2, a_cb, a_tup, a_dLst, a_vals0, a_vals1, a_vals2, a_vals3, a_vals4, call_eq, callO_eq, a_call1, a_call2, a_call3, a_call4, a_rf0, a_rf1, a_rf2, a_rfK_0, a_rfK_1, a_rfK_2, a_end0_0, a_end0_1, a_end0_2, a_end0_3, a_end1, a_put1_0, a_put1_1, a_look, a_lkK_0, a_lkK_1, a_lkK_2, a_ixV, a_ixK_0, a_ixK_1, a_ixK_2, a_lenV, a_truV, a_len_0, a_len_1, a_len_2, a_len_3, a_len_4, a_it, a_rg1, a_rgL, a_en, a_zp, a_itK_0, a_itK_1, a_itK_2, a_itE_0, a_itE_1, a_comp, a_compK_0, a_compK_1, a_isi, a_gI_0, a_gI_1, a_gI_2, List.getElem?_cons_zero, List.getElem?_cons_succ, List.set_cons_zero, List.set_cons_succ, Option.bind_some, Option.map_some, f_nil, f_cons, f_some, f_nx, f_ct, f_bk, f_rt, f_ex, a_putV, a_pv0, a_pv1, a_put, a_sp0, a_sp1, a_sp2, a_sp3, a_sp4, a_app, a_sa1, a_sa2, a_aug, a_au1, a_au2, a_au3, gEq_int, gNe_int, ct_rf, ct_own, if_true, if_false, Bool.false_eq_true, a_try, a_tryK_0, a_tryK_1, a_tryK_2, a_tryH_0, a_tryH_1, a_tryK2_0, a_tryK2_1, a_hdS_0, a_hdS_1, a_compX, a_compKX_0, a_fld, a_meth, a_prop, a_propK, a_propE, a_make, a_makeK, a_makeE, a_putF, a_pfK, a_lkv, a_lkvK, a_dct1, a_dct1K, a_dct1K2, a_dct2, a_key, a_putK, a_pk0, a_pk1, a_pk2, a_rg2, a_rg2K, a_rg2K2, a_oL, set_nr (pv_nr h11), set_nr (pv_nr h12), set_nr (pv_nr h13), set_nr (pv_nr h14), e1, e2, e3, Bool.not_true, sa, n1, i0, i1, b1, band, sb, bl, e4, z0, gNe_bl, beq_self_eq_true, row_len, it, ap, gLst0, q1, q2, q3]
end LW

set_option maxRecDepth 100000
set_option maxHeartbeats 2000000
namespace LW
open PySem PySem.Spec PyProof.Rows L2 DL
theorem loop0 {w : Wd} (o : WOk w) : ∃ s10 s11 s12 s13 s14, Pv s10 ∧ Pv s11 ∧ Pv s12 ∧ Pv s13 ∧ Pv s14 ∧ forL (setV 10) B_law_0 (rgF 0 (2 ^ w.v)) (w.env [] .un .un .un .un .un .un .un .un .un) = .nx (w.env ((rgF 0 (2 ^ w.v)).map (shD w.v w.ms w.r)) s10 s11 s12 s13 s14 .un .un .un .un) := by
  have hp := pow_le o.h2
  obtain ⟨δ', e, s10, s11, s12, s13, s14, h10, h11, h12, h13, h14, rfl⟩ := for_pos (A := setV 10) (f := B_law_0) (fun pre δ => ∃ s10 s11 s12 s13 s14, Pv s10 ∧ Pv s11 ∧ Pv s12 ∧ Pv s13 ∧ Pv s14 ∧ δ = w.env (pre.map (shD w.v w.ms w.r)) s10 s11 s12 s13 s14 .un .un .un .un) (rgF 0 (2 ^ w.v)) (rgF 0 (2 ^ w.v)) [] _ rfl
    ⟨.un, .un, .un, .un, .un, .inl rfl, .inl rfl, .inl rfl, .inl rfl, .inl rfl, rfl⟩ fun pre d r δ eall hI => by
      obtain ⟨s10, s11, s12, s13, s14, h10, h11, h12, h13, h14, rfl⟩ := hI
      have hd : d ∈ rgF 0 (2 ^ w.v) := by rw [eall]; simp
      obtain ⟨l, hl, rfl⟩ := mem_rgF hd
      have hlen : pre.length ≤ 64 := by
        have := congrArg List.length eall
        rw [rgF_len, List.length_append, List.length_cons] at this
        omega
      obtain ⟨a, b, c, d, e⟩ := body0 o (pre.map (shD w.v w.ms w.r)) (by rw [List.length_map]; exact hlen) l hl s11 s12 s13 s14 h11 h12 h13 h14
      refine ⟨w.env (pre.map (shD w.v w.ms w.r)) (.val (.int (l : Int))) s11 s12 s13 s14 .un .un .un .un, _, by rcases h10 with rfl | ⟨x, rfl⟩ <;> rfl, e, .val (.int (l : Int)), .val a, .val b, .val c, .val d, .inr ⟨_, rfl⟩, .inr ⟨_, rfl⟩, .inr ⟨_, rfl⟩, .inr ⟨_, rfl⟩, .inr ⟨_, rfl⟩, ?_⟩
      rw [List.map_append, List.map_cons, List.map_nil, shD_int]
  exact ⟨s10, s11, s12, s13, s14, h10, h11, h12, h13, h14, e⟩
theorem told_at {w : Wd} {l : Nat} (hl : l < 2 ^ w.v) : idxD (.lst ((rgF 0 (2 ^ w.v)).map (shD w.v w.ms w.r))) (.int (l : Int)) = some (.bl (Sh w.v w.ms w.r l)) := by
  refine ix_any (q := false) ?_
  unfold rgF
  rw [List.map_map, List.getElem?_map, List.getElem?_range' hl]
  show some (shD w.v w.ms w.r (.int ((0 + 1 * l : Nat) : Int))) = _
  rw [show 0 + 1 * l = l by omega, shD_int]
theorem body1 {w : Wd} (o : WOk w) (l s : Nat) (hl : l < 2 ^ w.v) (hs : s < w.v) (s11 s12 s13 s14 s16 : Sl) (h16 : Pv s16) :
    B_law_1 (w.env ((rgF 0 (2 ^ w.v)).map (shD w.v w.ms w.r)) (.val (.int (l : Int))) s11 s12 s13 s14 (.val (.int (s : Int))) s16 .un .un) = .nx (w.env ((rgF 0 (2 ^ w.v)).map (shD w.v w.ms w.r)) (.val (.int (l : Int))) s11 s12 s13 s14 (.val (.int (s : Int))) (.val (.int ((l ||| 2 ^ s : Nat) : Int))) .un .un) := by
  have cs : cPow 1 (s : Int) = true := cpw (by have := o.h2; omega)
  have i1 := told_at (w := w) hl
  have lw : l ||| 2 ^ s < 2 ^ w.v := or_lt hl (pw_lt hs)
  have i2 := told_at (w := w) lw
  have ir := ix_range (n := 2 ^ w.v) (Rd w.v w.ms) hl
  have wi := within_ev (l ||| 2 ^ s) (Rd w.v w.ms l)
  cases h : Sh w.v w.ms w.r l with
  | false =>
    rw [h] at i1
    simp -implicitDefEqProofs only [B_law_1, a_seq, a_expr, a_ret, a_retO, a_set, a_setO, a_if, a_unp, a_for, a_nil, a_retN, a_then_0, a_then_1, a_then_2, a_then_3, a_sK_0, a_sK_1, a_ifS_0, a_ifS_1, a_ifS_2, a_k_0, a_k_1, a_k_2, a_k_3, a_k_4, a_k_5, a_k_6, a_setV, a_setOd, a_setVK_0, a_setVK_1, a_setVK_2, a_setVK_3, a_setVK_4, a_setVK_5, a_c, a_var, a_varK_0, a_varK_1, a_bin, a_binK_0, a_binK_1, a_binK_2, a_binK_3, a_oE_0, a_oE_1, a_un, a_unK_0, a_unK_1, a_unK_2, a_unK_3, a_test, a_tru, a_not, a_asB_0, a_asB_1, a_asB_2, a_asB_3, a_lst_0, a_lst_1, a_and, a_or, a_andK_0, a_andK_1, a_andK_2, a_andK_3, a_andK_4, a_andK_5, a_dIf, a_tand, a_tor, a_tnot, a_ifK_0, a_ifK_1, a_ifK_2, a_ifK_3, a_ifK_4, a_cons, a_consK_0, a_consK_1, a_consK_2, a_consK_3, a_consK_4, a_refA, a_refK_0, a_refK_1, a_refK_2, a_cb, a_tup, a_dLst, a_vals0, a_vals1, a_vals2, a_vals3, a_vals4, call_eq, callO_eq, a_call1, a_call2, a_call3, a_call4, a_rf0, a_rf1, a_rf2, a_rfK_0, a_rfK_1, a_rfK_2, a_end0_0, a_end0_1, a_end0_2, a_end0_3, a_end1, a_put1_0, a_put1_1, a_look, a_lkK_0, a_lkK_1, a_lkK_2, a_ixV, a_ixK_0, a_ixK_1, a_ixK_2, a_lenV, a_truV, a_len_0, a_len_1, a_len_2, a_len_3, a_len_4, a_it, a_rg1, a_rgL, a_en, a_zp, a_itK_0, a_itK_1, a_itK_2, a_itE_0, a_itE_1, a_comp, a_compK_0, a_compK_1, a_isi, a_gI_0, a_gI_1, a_gI_2, List.getElem?_cons_zero, List.getElem?_cons_succ, List.set_cons_zero, List.set_cons_succ, Option.bind_some, Option.map_some, f_nil, f_cons, f_some, f_nx, f_ct, f_bk, f_rt, f_ex, a_putV, a_pv0, a_pv1, a_put, a_sp0, a_sp1, a_sp2, a_sp3, a_sp4, a_app, a_sa1, a_sa2, a_aug, a_au1, a_au2, a_au3, gEq_int, gNe_int, ct_rf, ct_own, if_true, if_false, Bool.false_eq_true, a_try, a_tryK_0, a_tryK_1, a_tryK_2, a_tryH_0, a_tryH_1, a_tryK2_0, a_tryK2_1, a_hdS_0, a_hdS_1, a_compX, a_compKX_0, a_fld, a_meth, a_prop, a_propK, a_propE, a_make, a_makeK, a_makeE, a_putF, a_pfK, a_lkv, a_lkvK, a_dct1, a_dct1K, a_dct1K2, a_dct2, a_key, a_putK, a_pk0, a_pk1, a_pk2, a_rg2, a_rg2K, a_rg2K2, a_oL, cs, shl1, bor, set_nr (pv_nr h16), i1]
  | true =>
    rw [h] at i1
    cases q : decide ((l ||| 2 ^ s) &&& Rd w.v w.ms l = l ||| 2 ^ s) with
    | false =>
      rw [q] at wi
      simp -implicitDefEqProofs only [B_law_1, a_seq, a_expr, a_ret, a_retO, a_set, a_setO, a_if, a_unp, a_for, a_nil, a_retN, a_then_0, a_then_1, a_then_2, a_then_3, a_sK_0, a_sK_1, a_ifS_0, a_ifS_1, a_ifS_2, a_k_0, a_k_1, a_k_2, a_k_3, a_k_4, a_k_5, a_k_6, a_setV, a_setOd, a_setVK_0, a_setVK_1, a_setVK_2, a_setVK_3, a_setVK_4, a_setVK_5, a_c, a_var, a_varK_0, a_varK_1, a_bin, a_binK_0, a_binK_1, a_binK_2, a_binK_3, a_oE_0, a_oE_1, a_un, a_unK_0, a_unK_1, a_unK_2, a_unK_3, a_test, a_tru, a_not, a_asB_0, a_asB_1, a_asB_2, a_asB_3, a_lst_0, a_lst_1, a_and, a_or, a_andK_0, a_andK_1, a_andK_2, a_andK_3, a_andK_4, a_andK_5, a_dIf, a_tand, a_tor, a_tnot, a_ifK_0, a_ifK_1, a_ifK_2, a_ifK_3, a_ifK_4, a_cons, a_consK_0, a_consK_1, a_consK_2, a_consK_3, a_consK_4, a_refA, a_refK_0, a_refK_1, a_refK_2, a_cb, a_tup, a_dLst, a_vals0, a_vals1, a_vals2, a_vals3, a_vals4, call_eq, callO_eq, a_call1, a_call2, a_call3, a_call4, a_rf0, a_rf1, a_rf2, a_rfK_0, a_rfK_1, a_rfK_2, a_end0_0, a_end0_1, a_end0_2, a_end0_3, a_end1, a_put1_0, a_put1_1, a_look, a_lkK_0, a_lkK_1, a_lkK_2, a_ixV, a_ixK_0, a_ixK_1, a_ixK_2, a_lenV, a_truV, a_len_0, a_len_1, a_len_2, a_len_3, a_len_4, a_it, a_rg1, a_rgL, a_en, a_zp, a_itK_0, a_itK_1, a_itK_2, a_itE_0, a_itE_1, a_comp, a_compK_0, a_compK_1, a_isi, a_gI_0, a_gI_1, a_gI_2, List.getElem?_cons_zero, List.getElem?_cons_succ, List.set_cons_zero, List.set_cons_succ, Option.bind_some, Option.map_some, f_nil, f_cons, f_some, f_nx, f_ct, f_bk, f_rt, f_ex, a_putV, a_pv0, a_pv1, a_put, a_sp0, a_sp1, a_sp2, a_sp3, a_sp4, a_app, a_sa1, a_sa2, a_aug, a_au1, a_au2, a_au3, gEq_int, gNe_int, ct_rf, ct_own, if_true, if_false, Bool.false_eq_true, a_try, a_tryK_0, a_tryK_1, a_tryK_2, a_tryH_0, a_tryH_1, a_tryK2_0, a_tryK2_1, a_hdS_0, a_hdS_1, a_compX, a_compKX_0, a_fld, a_meth, a_prop, a_propK, a_propE, a_make, a_makeK, a_makeE, a_putF, a_pfK, a_lkv, a_lkvK, a_dct1, a_dct1K, a_dct1K2, a_dct2, a_key, a_putK, a_pk0, a_pk1, a_pk2, a_rg2, a_rg2K, a_rg2K2, a_oL, cs, shl1, bor, set_nr (pv_nr h16), i1, ir, wi]
    | true =>
      rw [q] at wi
      have up := sharp_up o.F o.g.1 o.g.2 (l := l) (w := l ||| 2 ^ s) (wi_or_l _ _) (show (l ||| 2 ^ s) &&& Rd w.v w.ms l = l ||| 2 ^ s from of_decide_eq_true q) (of_decide_eq_true h)
      have e : Sh w.v w.ms w.r (l ||| 2 ^ s) = true := decide_eq_true up
      rw [e] at i2
      simp -implicitDefEqProofs only [B_law_1, a_seq, a_expr, a_ret, a_retO, a_set, a_setO, a_if, a_unp, a_for, a_nil, a_retN, a_then_0, a_then_1, a_then_2, a_then_3, a_sK_0, a_sK_1, a_ifS_0, a_ifS_1, a_ifS_2, a_k_0, a_k_1, a_k_2, a_k_3, a_k_4, a_k_5, a_k_6, a_setV, a_setOd, a_setVK_0, a_setVK_1, a_setVK_2, a_setVK_3, a_setVK_4, a_setVK_5, a_c, a_var, a_varK_0, a_varK_1, a_bin, a_binK_0, a_binK_1, a_binK_2, a_binK_3, a_oE_0, a_oE_1, a_un, a_unK_0, a_unK_1, a_unK_2, a_unK_3, a_test, a_tru, a_not, a_asB_0, a_asB_1, a_asB_2, a_asB_3, a_lst_0, a_lst_1, a_and, a_or, a_andK_0, a_andK_1, a_andK_2, a_andK_3, a_andK_4, a_andK_5, a_dIf, a_tand, a_tor, a_tnot, a_ifK_0, a_ifK_1, a_ifK_2, a_ifK_3, a_ifK_4, a_cons, a_consK_0, a_consK_1, a_consK_2, a_consK_3, a_consK_4, a_refA, a_refK_0, a_refK_1, a_refK_2, a_cb, a_tup, a_dLst, a_vals0, a_vals1, a_vals2, a_vals3, a_vals4, call_eq, callO_eq, a_call1, a_call2, a_call3, a_call4, a_rf0, a_rf1, a_rf2, a_rfK_0, a_rfK_1, a_rfK_2, a_end0_0, a_end0_1, a_end0_2, a_end0_3, a_end1, a_put1_0, a_put1_1, a_look, a_lkK_0, a_lkK_1, a_lkK_2, a_ixV, a_ixK_0, a_ixK_1, a_ixK_2, a_lenV, a_truV, a_len_0, a_len_1, a_len_2, a_len_3, a_len_4, a_it, a_rg1, a_rgL, a_en, a_zp, a_itK_0, a_itK_1, a_itK_2, a_itE_0, a_itE_1, a_comp, a_compK_0, a_compK_1, a_isi, a_gI_0, a_gI_1, a_gI_2, List.getElem?_cons_zero, List.getElem?_cons_succ, List.set_cons_zero, List.set_cons_succ, Option.bind_some, Option.map_some, f_nil, f_cons, f_some, f_nx, f_ct, f_bk, f_rt, f_ex, a_putV, a_pv0, a_pv1, a_put, a_sp0, a_sp1, a_sp2, a_sp3, a_sp4, a_app, a_sa1, a_sa2, a_aug, a_au1, a_au2, a_au3, gEq_int, gNe_int, ct_rf, ct_own, if_true, if_false, Bool.false_eq_true, a_try, a_tryK_0, a_tryK_1, a_tryK_2, a_tryH_0, a_tryH_1, a_tryK2_0, a_tryK2_1, a_hdS_0, a_hdS_1, a_compX, a_compKX_0, a_fld, a_meth, a_prop, a_propK, a_propE, a_make, a_makeK, a_makeE, a_putF, a_pfK, a_lkv, a_lkvK, a_dct1, a_dct1K, a_dct1K2, a_dct2, a_key, a_putK, a_pk0, a_pk1, a_pk2, a_rg2, a_rg2K, a_rg2K2, a_oL, cs, shl1, bor, set_nr (pv_nr h16), i1, ir, wi, i2, Bool.not_true]
theorem loop1 {w : Wd} (o : WOk w) (l : Nat) (hl : l < 2 ^ w.v) (s11 s12 s13 s14 s15 s16 : Sl) (h15 : Pv s15) (h16 : Pv s16) : ∃ s15' s16', Pv s15' ∧ Pv s16' ∧
    forL (setV 15) B_law_1 (rgF 0 w.v) (w.env ((rgF 0 (2 ^ w.v)).map (shD w.v w.ms w.r)) (.val (.int (l : Int))) s11 s12 s13 s14 s15 s16 .un .un) = .nx (w.env ((rgF 0 (2 ^ w.v)).map (shD w.v w.ms w.r)) (.val (.int (l : Int))) s11 s12 s13 s14 s15' s16' .un .un) := by
  obtain ⟨δ', e, s15', s16', h15', h16', rfl⟩ := for_turn (A := setV 15) (f := B_law_1) (fun _ δ => ∃ s15 s16, Pv s15 ∧ Pv s16 ∧ δ = w.env ((rgF 0 (2 ^ w.v)).map (shD w.v w.ms w.r)) (.val (.int (l : Int))) s11 s12 s13 s14 s15 s16 .un .un) (rgF 0 w.v) _ ⟨s15, s16, h15, h16, rfl⟩ fun pre d δ hd hI => by
    obtain ⟨s15, s16, h15, h16, rfl⟩ := hI
    obtain ⟨s, hs, rfl⟩ := mem_rgF hd
    exact ⟨w.env ((rgF 0 (2 ^ w.v)).map (shD w.v w.ms w.r)) (.val (.int (l : Int))) s11 s12 s13 s14 (.val (.int (s : Int))) s16 .un .un, _, by rcases h15 with rfl | ⟨x, rfl⟩ <;> rfl, body1 o l s hl hs s11 s12 s13 s14 s16 h16, .val (.int (s : Int)), .val (.int ((l ||| 2 ^ s : Nat) : Int)), .inr ⟨_, rfl⟩, .inr ⟨_, rfl⟩, rfl⟩
  exact ⟨s15', s16', h15', h16', e⟩
theorem loop2 {w : Wd} (o : WOk w) (s10 s11 s12 s13 s14 : Sl) (h10 : Pv s10) : ∃ s10' s15' s16',
    forL (setV 10) B_law_2 (rgF 0 (2 ^ w.v)) (w.env ((rgF 0 (2 ^ w.v)).map (shD w.v w.ms w.r)) s10 s11 s12 s13 s14 .un .un .un .un) = .nx (w.env ((rgF 0 (2 ^ w.v)).map (shD w.v w.ms w.r)) s10' s11 s12 s13 s14 s15' s16' .un .un) := by
  have hv := o.h2
  have iv := itF w.v (by omega)
  obtain ⟨δ', e, s10', s15', s16', _, _, _, rfl⟩ := for_turn (A := setV 10) (f := B_law_2) (fun _ δ => ∃ s10 s15 s16, Pv s10 ∧ Pv s15 ∧ Pv s16 ∧ δ = w.env ((rgF 0 (2 ^ w.v)).map (shD w.v w.ms w.r)) s10 s11 s12 s13 s14 s15 s16 .un .un) (rgF 0 (2 ^ w.v)) _ ⟨s10, .un, .un, h10, .inl rfl, .inl rfl, rfl⟩ fun pre d δ hd hI => by
    obtain ⟨s10, s15, s16, h10, h15, h16, rfl⟩ := hI
    obtain ⟨l, hl, rfl⟩ := mem_rgF hd
    obtain ⟨s15', s16', h15', h16', e⟩ := loop1 o l hl s11 s12 s13 s14 s15 s16 h15 h16
    refine ⟨w.env ((rgF 0 (2 ^ w.v)).map (shD w.v w.ms w.r)) (.val (.int (l : Int))) s11 s12 s13 s14 s15 s16 .un .un, _, by rcases h10 with rfl | ⟨x, rfl⟩ <;> rfl, ?_, .val (.int (l : Int)), s15', s16', .inr ⟨_, rfl⟩, h15', h16', rfl⟩
    rw [← e]
    simp -implicitDefEqProofs only [B_law_2, a_seq, a_expr, a_ret, a_retO, a_set, a_setO, a_if, a_unp, a_for, a_nil, a_retN, a_then_0, a_then_1, a_then_2, a_then_3, a_sK_0, a_sK_1, a_ifS_0, a_ifS_1, a_ifS_2, a_k_0, a_k_1, a_k_2, a_k_3, a_k_4, a_k_5, a_k_6, a_setV, a_setOd, a_setVK_0, a_setVK_1, a_setVK_2, a_setVK_3, a_setVK_4, a_setVK_5, a_c, a_var, a_varK_0, a_varK_1, a_bin, a_binK_0, a_binK_1, a_binK_2, a_binK_3, a_oE_0, a_oE_1, a_un, a_unK_0, a_unK_1, a_unK_2, a_unK_3, a_test, a_tru, a_not, a_asB_0, a_asB_1, a_asB_2, a_asB_3, a_lst_0, a_lst_1, a_and, a_or, a_andK_0, a_andK_1, a_andK_2, a_andK_3, a_andK_4, a_andK_5, a_dIf, a_tand, a_tor, a_tnot, a_ifK_0, a_ifK_1, a_ifK_2, a_ifK_3, a_ifK_4, a_cons, a_consK_0, a_consK_1, a_consK_2, a_consK_3, a_consK_4, a_refA, a_refK_0, a_refK_1, a_refK_2, a_cb, a_tup, a_dLst, a_vals0, a_vals1, a_vals2, a_vals3, a_vals4, call_eq, callO_eq, a_call1, a_call2, a_call3, a_call4, a_rf0, a_rf1, a_rf2, a_rfK_0, a_rfK_1, a_rfK_2, a_end0_0, a_end0_1, a_end0_2, a_end0_3, a_end1, a_put1_0, a_put1_1, a_look, a_lkK_0, a_lkK_1, a_lkK_2, a_ixV, a_ixK_0, a_ixK_1, a_ixK_2, a_lenV, a_truV, a_len_0, a_len_1, a_len_2, a_len_3, a_len_4, a_it, a_rg1, a_rgL, a_en, a_zp, a_itK_0, a_itK_1, a_itK_2, a_itE_0, a_itE_1, a_comp, a_compK_0, a_compK_1, a_isi, a_gI_0, a_gI_1, a_gI_2, List.getElem?_cons_zero, List.getElem?_cons_succ, List.set_cons_zero, List.set_cons_succ, Option.bind_some, Option.map_some, f_nil, f_cons, f_some, f_nx, f_ct, f_bk, f_rt, f_ex, a_putV, a_pv0, a_pv1, a_put, a_sp0, a_sp1, a_sp2, a_sp3, a_sp4, a_app, a_sa1, a_sa2, a_aug, a_au1, a_au2, a_au3, gEq_int, gNe_int, ct_rf, ct_own, if_true, if_false, Bool.false_eq_true, a_try, a_tryK_0, a_tryK_1, a_tryK_2, a_tryH_0, a_tryH_1, a_tryK2_0, a_tryK2_1, a_hdS_0, a_hdS_1, a_compX, a_compKX_0, a_fld, a_meth, a_prop, a_propK, a_propE, a_make, a_makeK, a_makeE, a_putF, a_pfK, a_lkv, a_lkvK, a_dct1, a_dct1K, a_dct1K2, a_dct2, a_key, a_putK, a_pk0, a_pk1, a_pk2, a_rg2, a_rg2K, a_rg2K2, a_oL, iv]
  exact ⟨s10', s15', s16', e⟩
theorem backs_st (ns : List Int) (d : D) (v : Nat) (ms r : List Nat) (q : Bool) (hm : ms.length ≤ 64) (hr : r.length ≤ 63) (rs : D) :
    compL (setV 17) dYes E_law_0 [17] (rowD ms) [.val (.scr ns), .own d, .val (.int (v : Int)), .val (.lst (rowD ms)), .val (.lst (rowD r)), .val (gl v ms), .val (sq q (rowD r)), .val rs, .un, .un, .un, .un, .un, .un, .un, .un, .un, .un, .un] [] = .ok (.lst (rowD (ms.map (Bk r)))) [.val (.scr ns), .own d, .val (.int (v : Int)), .val (.lst (rowD ms)), .val (.lst (rowD r)), .val (gl v ms), .val (sq q (rowD r)), .val rs, .un, .un, .un, .un, .un, .un, .un, .un, .un, .un, .un] := by
  have e := comp_pure (A := setV 17) (el := E_law_0) (vs := [17]) (δ := [.val (.scr ns), .own d, .val (.int (v : Int)), .val (.lst (rowD ms)), .val (.lst (rowD r)), .val (gl v ms), .val (sq q (rowD r)), .val rs, .un, .un, .un, .un, .un, .un, .un, .un, .un, .un, .un]) (Γ := fun z => [.val (.scr ns), .rf d, .val (.int (v : Int)), .val (.lst (rowD ms)), .val (.lst (rowD r)), .val (gl v ms), .val (sq q (rowD r)), .val rs, .un, .un, .un, .un, .un, .un, .un, .un, .un, .val z, .un]) (ofN (Bk r)) (rowD ms) rfl (fun _ => rfl) (fun _ => rfl) (by rw [row_len]; omega) fun d hd => by
    obtain ⟨k, _, rfl⟩ := mem_rowD hd
    have e : fn__law_back [.lst (rowD r), .int (k : Int)] = .ret (.int (Bk r k : Nat)) [] := lback_ev r k hr
    rw [ofN_int]
    simp -implicitDefEqProofs only [E_law_0, a_seq, a_expr, a_ret, a_retO, a_set, a_setO, a_if, a_unp, a_for, a_nil, a_retN, a_then_0, a_then_1, a_then_2, a_then_3, a_sK_0, a_sK_1, a_ifS_0, a_ifS_1, a_ifS_2, a_k_0, a_k_1, a_k_2, a_k_3, a_k_4, a_k_5, a_k_6, a_setV, a_setOd, a_setVK_0, a_setVK_1, a_setVK_2, a_setVK_3, a_setVK_4, a_setVK_5, a_c, a_var, a_varK_0, a_varK_1, a_bin, a_binK_0, a_binK_1, a_binK_2, a_binK_3, a_oE_0, a_oE_1, a_un, a_unK_0, a_unK_1, a_unK_2, a_unK_3, a_test, a_tru, a_not, a_asB_0, a_asB_1, a_asB_2, a_asB_3, a_lst_0, a_lst_1, a_and, a_or, a_andK_0, a_andK_1, a_andK_2, a_andK_3, a_andK_4, a_andK_5, a_dIf, a_tand, a_tor, a_tnot, a_ifK_0, a_ifK_1, a_ifK_2, a_ifK_3, a_ifK_4, a_cons, a_consK_0, a_consK_1, a_consK_2, a_consK_3, a_consK_4, a_refA, a_refK_0, a_refK_1, a_refK_2, a_cb, a_tup, a_dLst, a_vals0, a_vals1, a_vals2, a_vals3, a_vals4, call_eq, callO_eq, a_call1, a_call2, a_call3, a_call4, a_rf0, a_rf1, a_rf2, a_rfK_0, a_rfK_1, a_rfK_2, a_end0_0, a_end0_1, a_end0_2, a_end0_3, a_end1, a_put1_0, a_put1_1, a_look, a_lkK_0, a_lkK_1, a_lkK_2, a_ixV, a_ixK_0, a_ixK_1, a_ixK_2, a_lenV, a_truV, a_len_0, a_len_1, a_len_2, a_len_3, a_len_4, a_it, a_rg1, a_rgL, a_en, a_zp, a_itK_0, a_itK_1, a_itK_2, a_itE_0, a_itE_1, a_comp, a_compK_0, a_compK_1, a_isi, a_gI_0, a_gI_1, a_gI_2, List.getElem?_cons_zero, List.getElem?_cons_succ, List.set_cons_zero, List.set_cons_succ, Option.bind_some, Option.map_some, f_nil, f_cons, f_some, f_nx, f_ct, f_bk, f_rt, f_ex, a_putV, a_pv0, a_pv1, a_put, a_sp0, a_sp1, a_sp2, a_sp3, a_sp4, a_app, a_sa1, a_sa2, a_aug, a_au1, a_au2, a_au3, gEq_int, gNe_int, ct_rf, ct_own, if_true, if_false, Bool.false_eq_true, a_try, a_tryK_0, a_tryK_1, a_tryK_2, a_tryH_0, a_tryH_1, a_tryK2_0, a_tryK2_1, a_hdS_0, a_hdS_1, a_compX, a_compKX_0, a_fld, a_meth, a_prop, a_propK, a_propE, a_make, a_makeK, a_makeE, a_putF, a_pfK, a_lkv, a_lkvK, a_dct1, a_dct1K, a_dct1K2, a_dct2, a_key, a_putK, a_pk0, a_pk1, a_pk2, a_rg2, a_rg2K, a_rg2K2, a_oL, e]
  rw [e, map_rowD _ _ _ (ofN_int _)]
theorem main (ns : List Int) (hns : ns.length ≤ 63) : fn_law [.scr ns] = .ret (.bl true) [] := by
  obtain ⟨d0, e0, hd0⟩ := hand_ev ns hns
  obtain ⟨v, d1, e1, hd1, h1, h2⟩ := stands_ev d0 hd0
  obtain ⟨ms0, d2, e2, hd2, F0⟩ := rich_ev d1 v hd1 h1 h2
  obtain ⟨r, d3, e3, hd3, hrl, hrb⟩ := drawn_ev d2 v hd2 h1 h2
  obtain ⟨t, d4, e4, hd4, ht⟩ := take_nat d3 4 hd3 (by decide) (by decide)
  have e4 : fn__law_take [d3, .int 4] = .ret (.int (t : Int)) [d4] := e4
  have g : Good v r := ⟨hrl, hrb⟩
  have hr63 : r.length ≤ 63 := by omega
  have hp := pow_le h2
  have cv : cPow 1 (v : Int) = true := cpw (by omega)
  have i2 := itF (2 ^ v) (by omega)
  have lr : gLstD [.lst (rowD r)] = some (.lst [.lst (rowD r)]) := if_pos (le_line (by show 1 ≤ 4096; decide))
  have fin : ∀ (ms : List Nat) (F : Fam v ms), ∃ (p q : Bool) (d5 d6 : D), fn__law_list [d4, .lst (rowD ms)] = .ret (sq p (rowD ms)) [d5] ∧ fn__law_list [d5, .lst (rowD r)] = .ret (sq q (rowD r)) [d6] ∧ fn_Glasses_init [.ins "Glasses" [] [], .int (v : Int), sq p (rowD ms)] = .ret .non [gl v ms] := fun ms F => by
    obtain ⟨p, d5, e5, hd5⟩ := list_ev d4 (rowD ms) hd4
    obtain ⟨q, d6, e6, hd6⟩ := list_ev d5 (rowD r) hd5
    exact ⟨p, q, d5, d6, e5, e6, init_ev p F h1 h2⟩
  rw [o_law]
  by_cases t0 : t = 0
  · subst t0
    have b : (((0 : Nat) : Int) == 0) = true := rfl
    obtain ⟨ms, er, F⟩ := refined_ev F0 h2 [r] (fun x hx => by have : x = r := by simpa using hx
                                                               rw [this]; exact hr63) (by show 1 ≤ 20; decide)
    have er : fn__law_refined [.int (v : Int), .lst (rowD ms0), .lst [.lst (rowD r)]] = .ret (.lst (rowD ms)) [] := er
    obtain ⟨p, q, d5, d6, e5, e6, e7⟩ := fin ms F
    have hm := F.len
    have o : WOk ⟨ns, d6, v, ms, r, q⟩ := ⟨h1, h2, F, g⟩
    have e8 := rounds_ev F h2
    have e9 := backs_st ns d6 v ms r q (by omega) hr63 (.lst (rowD ((List.range (2 ^ v)).map (Rd v ms))))
    obtain ⟨s10, s11, s12, s13, s14, h10, h11, h12, h13, h14, f0⟩ := loop0 o
    obtain ⟨s10', s15', s16', f1⟩ := loop2 o s10 s11 s12 s13 s14 h10
    have eq : gEq false (.lst (rowD r)) (.lst (rowD r)) = some (.bl true) := by rw [gEq_lst]; simp
    have mk2 : ∀ δ, makeK2 "Glasses" [true, false, false] [] fn_Glasses_init δ (avs [.v (.int (v : Int)), .v (sq p (rowD ms))]) = .ok (gl v ms) δ := fun δ => by
      refine (a_makeK2 δ _ [true, false, false] [] fn_Glasses_init [.int (v : Int), sq p (rowD ms)] rfl).trans ?_
      show makeE δ (fn_Glasses_init [.ins "Glasses" [] [], .int (v : Int), sq p (rowD ms)]) = _
      rw [e7]; rfl
    simp -implicitDefEqProofs only [F_law, a_seq, a_expr, a_ret, a_retO, a_set, a_setO, a_if, a_unp, a_for, a_nil, a_retN, a_then_0, a_then_1, a_then_2, a_then_3, a_sK_0, a_sK_1, a_ifS_0, a_ifS_1, a_ifS_2, a_k_0, a_k_1, a_k_2, a_k_3, a_k_4, a_k_5, a_k_6, a_setV, a_setOd, a_setVK_0, a_setVK_1, a_setVK_2, a_setVK_3, a_setVK_4, a_setVK_5, a_c, a_var, a_varK_0, a_varK_1, a_bin, a_binK_0, a_binK_1, a_binK_2, a_binK_3, a_oE_0, a_oE_1, a_un, a_unK_0, a_unK_1, a_unK_2, a_unK_3, a_test, a_tru, a_not, a_asB_0, a_asB_1, a_asB_2, a_asB_3, a_lst_0, a_lst_1, a_and, a_or, a_andK_0, a_andK_1, a_andK_2, a_andK_3, a_andK_4, a_andK_5, a_dIf, a_tand, a_tor, a_tnot, a_ifK_0, a_ifK_1, a_ifK_2, a_ifK_3, a_ifK_4, a_cons, a_consK_0, a_consK_1, a_consK_2, a_consK_3, a_consK_4, a_refA, a_refK_0, a_refK_1, a_refK_2, a_cb, a_tup, a_dLst, a_vals0, a_vals1, a_vals2, a_vals3, a_vals4, call_eq, callO_eq, a_call1, a_call2, a_call3, a_call4, a_rf0, a_rf1, a_rf2, a_rfK_0, a_rfK_1, a_rfK_2, a_end0_0, a_end0_1, a_end0_2, a_end0_3, a_end1, a_put1_0, a_put1_1, a_look, a_lkK_0, a_lkK_1, a_lkK_2, a_ixV, a_ixK_0, a_ixK_1, a_ixK_2, a_lenV, a_truV, a_len_0, a_len_1, a_len_2, a_len_3, a_len_4, a_it, a_rg1, a_rgL, a_en, a_zp, a_itK_0, a_itK_1, a_itK_2, a_itE_0, a_itE_1, a_comp, a_compK_0, a_compK_1, a_isi, a_gI_0, a_gI_1, a_gI_2, List.getElem?_cons_zero, List.getElem?_cons_succ, List.set_cons_zero, List.set_cons_succ, Option.bind_some, Option.map_some, f_nil, f_cons, f_some, f_nx, f_ct, f_bk, f_rt, f_ex, a_putV, a_pv0, a_pv1, a_put, a_sp0, a_sp1, a_sp2, a_sp3, a_sp4, a_app, a_sa1, a_sa2, a_aug, a_au1, a_au2, a_au3, gEq_int, gNe_int, ct_rf, ct_own, if_true, if_false, Bool.false_eq_true, a_try, a_tryK_0, a_tryK_1, a_tryK_2, a_tryH_0, a_tryH_1, a_tryK2_0, a_tryK2_1, a_hdS_0, a_hdS_1, a_compX, a_compKX_0, a_fld, a_meth, a_prop, a_propK, a_propE, a_make, a_makeK, a_makeE, a_putF, a_pfK, a_lkv, a_lkvK, a_dct1, a_dct1K, a_dct1K2, a_dct2, a_key, a_putK, a_pk0, a_pk1, a_pk2, a_rg2, a_rg2K, a_rg2K2, a_oL, e0, e1, e2, e3, e4, b, lr, er, e5, mk2, e6, e8, it_lst, e9, gLst0, cv, shl1, i2, f0, f1, sq_lst, eq]
    rfl
  · have b : ((t : Int) == 0) = false := eqn t 0 t0
    obtain ⟨p, q, d5, d6, e5, e6, e7⟩ := fin ms0 F0
    have hm := F0.len
    have o : WOk ⟨ns, d6, v, ms0, r, q⟩ := ⟨h1, h2, F0, g⟩
    have e8 := rounds_ev F0 h2
    have e9 := backs_st ns d6 v ms0 r q (by omega) hr63 (.lst (rowD ((List.range (2 ^ v)).map (Rd v ms0))))
    obtain ⟨s10, s11, s12, s13, s14, h10, h11, h12, h13, h14, f0⟩ := loop0 o
    obtain ⟨s10', s15', s16', f1⟩ := loop2 o s10 s11 s12 s13 s14 h10
    have eq : gEq false (.lst (rowD r)) (.lst (rowD r)) = some (.bl true) := by rw [gEq_lst]; simp
    have mk2 : ∀ δ, makeK2 "Glasses" [true, false, false] [] fn_Glasses_init δ (avs [.v (.int (v : Int)), .v (sq p (rowD ms0))]) = .ok (gl v ms0) δ := fun δ => by
      refine (a_makeK2 δ _ [true, false, false] [] fn_Glasses_init [.int (v : Int), sq p (rowD ms0)] rfl).trans ?_
      show makeE δ (fn_Glasses_init [.ins "Glasses" [] [], .int (v : Int), sq p (rowD ms0)]) = _
      rw [e7]; rfl
    simp -implicitDefEqProofs only [F_law, a_seq, a_expr, a_ret, a_retO, a_set, a_setO, a_if, a_unp, a_for, a_nil, a_retN, a_then_0, a_then_1, a_then_2, a_then_3, a_sK_0, a_sK_1, a_ifS_0, a_ifS_1, a_ifS_2, a_k_0, a_k_1, a_k_2, a_k_3, a_k_4, a_k_5, a_k_6, a_setV, a_setOd, a_setVK_0, a_setVK_1, a_setVK_2, a_setVK_3, a_setVK_4, a_setVK_5, a_c, a_var, a_varK_0, a_varK_1, a_bin, a_binK_0, a_binK_1, a_binK_2, a_binK_3, a_oE_0, a_oE_1, a_un, a_unK_0, a_unK_1, a_unK_2, a_unK_3, a_test, a_tru, a_not, a_asB_0, a_asB_1, a_asB_2, a_asB_3, a_lst_0, a_lst_1, a_and, a_or, a_andK_0, a_andK_1, a_andK_2, a_andK_3, a_andK_4, a_andK_5, a_dIf, a_tand, a_tor, a_tnot, a_ifK_0, a_ifK_1, a_ifK_2, a_ifK_3, a_ifK_4, a_cons, a_consK_0, a_consK_1, a_consK_2, a_consK_3, a_consK_4, a_refA, a_refK_0, a_refK_1, a_refK_2, a_cb, a_tup, a_dLst, a_vals0, a_vals1, a_vals2, a_vals3, a_vals4, call_eq, callO_eq, a_call1, a_call2, a_call3, a_call4, a_rf0, a_rf1, a_rf2, a_rfK_0, a_rfK_1, a_rfK_2, a_end0_0, a_end0_1, a_end0_2, a_end0_3, a_end1, a_put1_0, a_put1_1, a_look, a_lkK_0, a_lkK_1, a_lkK_2, a_ixV, a_ixK_0, a_ixK_1, a_ixK_2, a_lenV, a_truV, a_len_0, a_len_1, a_len_2, a_len_3, a_len_4, a_it, a_rg1, a_rgL, a_en, a_zp, a_itK_0, a_itK_1, a_itK_2, a_itE_0, a_itE_1, a_comp, a_compK_0, a_compK_1, a_isi, a_gI_0, a_gI_1, a_gI_2, List.getElem?_cons_zero, List.getElem?_cons_succ, List.set_cons_zero, List.set_cons_succ, Option.bind_some, Option.map_some, f_nil, f_cons, f_some, f_nx, f_ct, f_bk, f_rt, f_ex, a_putV, a_pv0, a_pv1, a_put, a_sp0, a_sp1, a_sp2, a_sp3, a_sp4, a_app, a_sa1, a_sa2, a_aug, a_au1, a_au2, a_au3, gEq_int, gNe_int, ct_rf, ct_own, if_true, if_false, Bool.false_eq_true, a_try, a_tryK_0, a_tryK_1, a_tryK_2, a_tryH_0, a_tryH_1, a_tryK2_0, a_tryK2_1, a_hdS_0, a_hdS_1, a_compX, a_compKX_0, a_fld, a_meth, a_prop, a_propK, a_propE, a_make, a_makeK, a_makeE, a_putF, a_pfK, a_lkv, a_lkvK, a_dct1, a_dct1K, a_dct1K2, a_dct2, a_key, a_putK, a_pk0, a_pk1, a_pk2, a_rg2, a_rg2K, a_rg2K2, a_oL, e0, e1, e2, e3, e4, b, e5, mk2, e6, e8, it_lst, e9, gLst0, cv, shl1, i2, f0, f1, sq_lst, eq]
    rfl
end LW

set_option maxHeartbeats 0
namespace LW
open PySem PySem.Spec PyProof.Rows L2 DL
/-! ### the head -/
def fa : List He.Fa := [.cls "Glasses", .noat "Glasses" "members", .noat "Glasses" "stands", .free "abs", .free "bool", .free "enumerate", .free "int", .free "isinstance", .free "len", .free "list", .free "min", .free "range", .free "set", .free "sorted", .free "str", .free "tuple", .int "MOST_STANDS" 6, .glo "BadStands", .exc "BadStands", .glo "BadLot", .exc "BadLot", .exm "BadStands" "BadStands" true, .exm "BadStands" "BadLot" false, .exm "BadLot" "BadStands" false, .exm "BadLot" "BadLot" true, .glo "is_sequence", .glo "is_whole", .glo "check_stands", .glo "all_stands", .glo "check_lot", .glo "check_row", .glo "next_lot", .glo "back_lot", .meth "Glasses" "rounded", .glo "_is_sharp", .glo "sharp_at", .glo "blurring_lot", .glo "_check_ascending", .glo "_check_meets", .glo "_checked_members", .glo "Glasses", .mkr "Glasses", .glo "_law_hand", .glo "_law_mixed", .glo "_law_take", .glo "_law_stands", .glo "_law_every", .glo "_law_within", .glo "_law_met", .glo "_law_members", .glo "_law_rounded", .glo "_law_single", .glo "_law_drawn_row", .glo "_law_next", .glo "_law_back", .glo "_law_list", .glo "_law_int", .glo "_law_exact", .glo "_law_rounds", .glo "_law_alike", .glo "_law_refined", .glo "_law_rich_members", .glo "law"]
def exs : List (PySem.W.Frag → Bool) := []
def d_is_sequence : He5.DefA := ⟨fun K => He.ga K "is_sequence", "is_sequence", "is_sequence", defArgs s_is_sequence, defBody s_is_sequence, defScope s_is_sequence, [], []⟩
def d_is_whole : He5.DefA := ⟨fun K => He.ga K "is_whole", "is_whole", "is_whole", defArgs s_is_whole, defBody s_is_whole, defScope s_is_whole, [.non, .non], []⟩
def d_check_stands : He5.DefA := ⟨fun K => He.ga K "check_stands", "check_stands", "check_stands", defArgs s_check_stands, defBody s_check_stands, defScope s_check_stands, [], []⟩
def d_all_stands : He5.DefA := ⟨fun K => He.ga K "all_stands", "all_stands", "all_stands", defArgs s_all_stands, defBody s_all_stands, defScope s_all_stands, [], []⟩
def d_check_lot : He5.DefA := ⟨fun K => He.ga K "check_lot", "check_lot", "check_lot", defArgs s_check_lot, defBody s_check_lot, defScope s_check_lot, [], []⟩
def d_check_row : He5.DefA := ⟨fun K => He.ga K "check_row", "check_row", "check_row", defArgs s_check_row, defBody s_check_row, defScope s_check_row, [], []⟩
def d_next_lot : He5.DefA := ⟨fun K => He.ga K "next_lot", "next_lot", "next_lot", defArgs s_next_lot, defBody s_next_lot, defScope s_next_lot, [], []⟩
def d_back_lot : He5.DefA := ⟨fun K => He.ga K "back_lot", "back_lot", "back_lot", defArgs s_back_lot, defBody s_back_lot, defScope s_back_lot, [], []⟩
def d_Glasses_rounded : He5.DefA := ⟨fun K => He.ma K (He.ga K "Glasses") "rounded", "rounded", "Glasses.rounded", defArgs s_Glasses_rounded, defBody s_Glasses_rounded, defScope s_Glasses_rounded, [], []⟩
def d__is_sharp : He5.DefA := ⟨fun K => He.ga K "_is_sharp", "_is_sharp", "_is_sharp", defArgs s__is_sharp, defBody s__is_sharp, defScope s__is_sharp, [], []⟩
def d_sharp_at : He5.DefA := ⟨fun K => He.ga K "sharp_at", "sharp_at", "sharp_at", defArgs s_sharp_at, defBody s_sharp_at, defScope s_sharp_at, [], []⟩
def d_blurring_lot : He5.DefA := ⟨fun K => He.ga K "blurring_lot", "blurring_lot", "blurring_lot", defArgs s_blurring_lot, defBody s_blurring_lot, defScope s_blurring_lot, [], []⟩
def d__check_ascending : He5.DefA := ⟨fun K => He.ga K "_check_ascending", "_check_ascending", "_check_ascending", defArgs s__check_ascending, defBody s__check_ascending, defScope s__check_ascending, [], []⟩
def d__check_meets : He5.DefA := ⟨fun K => He.ga K "_check_meets", "_check_meets", "_check_meets", defArgs s__check_meets, defBody s__check_meets, defScope s__check_meets, [], []⟩
def d__checked_members : He5.DefA := ⟨fun K => He.ga K "_checked_members", "_checked_members", "_checked_members", defArgs s__checked_members, defBody s__checked_members, defScope s__checked_members, [], []⟩
def d_Glasses_init : He5.DefA := ⟨fun K => He.ma K (He.ga K "Glasses") "__init__", "__init__", "Glasses.__init__", defArgs s_Glasses_init, defBody s_Glasses_init, defScope s_Glasses_init, [], []⟩
def d__law_hand : He5.DefA := ⟨fun K => He.ga K "_law_hand", "_law_hand", "_law_hand", defArgs s__law_hand, defBody s__law_hand, defScope s__law_hand, [], []⟩
def d__law_mixed : He5.DefA := ⟨fun K => He.ga K "_law_mixed", "_law_mixed", "_law_mixed", defArgs s__law_mixed, defBody s__law_mixed, defScope s__law_mixed, [], []⟩
def d__law_take : He5.DefA := ⟨fun K => He.ga K "_law_take", "_law_take", "_law_take", defArgs s__law_take, defBody s__law_take, defScope s__law_take, [], []⟩
def d__law_stands : He5.DefA := ⟨fun K => He.ga K "_law_stands", "_law_stands", "_law_stands", defArgs s__law_stands, defBody s__law_stands, defScope s__law_stands, [], []⟩
def d__law_every : He5.DefA := ⟨fun K => He.ga K "_law_every", "_law_every", "_law_every", defArgs s__law_every, defBody s__law_every, defScope s__law_every, [], []⟩
def d__law_within : He5.DefA := ⟨fun K => He.ga K "_law_within", "_law_within", "_law_within", defArgs s__law_within, defBody s__law_within, defScope s__law_within, [], []⟩
def d__law_met : He5.DefA := ⟨fun K => He.ga K "_law_met", "_law_met", "_law_met", defArgs s__law_met, defBody s__law_met, defScope s__law_met, [], []⟩
def d__law_members : He5.DefA := ⟨fun K => He.ga K "_law_members", "_law_members", "_law_members", defArgs s__law_members, defBody s__law_members, defScope s__law_members, [], []⟩
def d__law_rounded : He5.DefA := ⟨fun K => He.ga K "_law_rounded", "_law_rounded", "_law_rounded", defArgs s__law_rounded, defBody s__law_rounded, defScope s__law_rounded, [], []⟩
def d__law_single : He5.DefA := ⟨fun K => He.ga K "_law_single", "_law_single", "_law_single", defArgs s__law_single, defBody s__law_single, defScope s__law_single, [], []⟩
def d__law_drawn_row : He5.DefA := ⟨fun K => He.ga K "_law_drawn_row", "_law_drawn_row", "_law_drawn_row", defArgs s__law_drawn_row, defBody s__law_drawn_row, defScope s__law_drawn_row, [], []⟩
def d__law_next : He5.DefA := ⟨fun K => He.ga K "_law_next", "_law_next", "_law_next", defArgs s__law_next, defBody s__law_next, defScope s__law_next, [], []⟩
def d__law_back : He5.DefA := ⟨fun K => He.ga K "_law_back", "_law_back", "_law_back", defArgs s__law_back, defBody s__law_back, defScope s__law_back, [], []⟩
def d__law_list : He5.DefA := ⟨fun K => He.ga K "_law_list", "_law_list", "_law_list", defArgs s__law_list, defBody s__law_list, defScope s__law_list, [], []⟩
def d__law_int : He5.DefA := ⟨fun K => He.ga K "_law_int", "_law_int", "_law_int", defArgs s__law_int, defBody s__law_int, defScope s__law_int, [], []⟩
def d__law_exact : He5.DefA := ⟨fun K => He.ga K "_law_exact", "_law_exact", "_law_exact", defArgs s__law_exact, defBody s__law_exact, defScope s__law_exact, [], []⟩
def d__law_rounds : He5.DefA := ⟨fun K => He.ga K "_law_rounds", "_law_rounds", "_law_rounds", defArgs s__law_rounds, defBody s__law_rounds, defScope s__law_rounds, [], []⟩
def d__law_alike : He5.DefA := ⟨fun K => He.ga K "_law_alike", "_law_alike", "_law_alike", defArgs s__law_alike, defBody s__law_alike, defScope s__law_alike, [], []⟩
def d__law_refined : He5.DefA := ⟨fun K => He.ga K "_law_refined", "_law_refined", "_law_refined", defArgs s__law_refined, defBody s__law_refined, defScope s__law_refined, [], []⟩
def d__law_rich_members : He5.DefA := ⟨fun K => He.ga K "_law_rich_members", "_law_rich_members", "_law_rich_members", defArgs s__law_rich_members, defBody s__law_rich_members, defScope s__law_rich_members, [], []⟩
def d_law : He5.DefA := ⟨fun K => He.ga K "law", "law", "law", defArgs s_law, defBody s_law, defScope s_law, [], []⟩
def fn : List He5.DefA := [d_is_sequence, d_is_whole, d_check_stands, d_all_stands, d_check_lot, d_check_row, d_next_lot, d_back_lot, d_Glasses_rounded, d__is_sharp, d_sharp_at, d_blurring_lot, d__check_ascending, d__check_meets, d__checked_members, d_Glasses_init, d__law_hand, d__law_mixed, d__law_take, d__law_stands, d__law_every, d__law_within, d__law_met, d__law_members, d__law_rounded, d__law_single, d__law_drawn_row, d__law_next, d__law_back, d__law_list, d__law_int, d__law_exact, d__law_rounds, d__law_alike, d__law_refined, d__law_rich_members, d_law]
abbrev R : PySem.W.OpenRow := PySem.W.OpenLaw.row PySem.Challenge.rw_truealarms_k19_whole_sharp_lots_by_back
abbrev hk : PySem.W.Hook := hookZ 8 fa fn exs
def ob (s : PySem.W.SharedT) : AlZ := obsZG 8 fa fn exs (HandSHeadRun.getT s)
theorem ob_eq (s : PySem.W.SharedT) : ob s = hk.obs s.abs := obsZG_eq (HandSHeadRun.getT_eq s)
def loose0 : List Str := ["CheckerError", "BadStands", "BadLot", "BadGlasses", "BadRow", "Glasses", "MOST_STANDS", "is_sequence", "is_whole", "check_stands", "all_stands", "check_lot"]
def loose1 : List Str := ["check_row", "next_lot", "back_lot", "_is_sharp", "sharp_at", "blurring_lot", "_check_ascending", "_check_meets", "_checked_members", "_law_hand", "_law_mixed", "_law_take"]
def loose2 : List Str := ["_law_stands", "_law_every", "_law_within", "_law_met", "_law_members", "_law_rounded", "_law_single", "_law_drawn_row", "_law_next", "_law_back", "_law_list", "_law_int"]
def loose3 : List Str := ["_law_exact", "_law_rounds", "_law_alike", "_law_refined", "_law_rich_members"]
def loose : List Str := loose0 ++ loose1 ++ loose2 ++ loose3
theorem run (w : World) : HandSHeadRun.RunEq R (PySem.W.view R.prog [48]) hk ob 6000 loose w := by
  intro os
  kernel_rfl
theorem facts {P : Program} {w : World} {K : PySem.W.Frag} {h : Heap} {mg : Str → Option Value} {f : Addr} (main : ∀ ns : List Int, ns.length ≤ 63 → fn_law [.scr ns] = .ret (.bl true) []) (X : K.In h) (G : h.Ns mainGlobals mg) (hfa : mg ("law" : Str) = some (.ref f)) (c : SaysZ fa fn exs K) :
    ∃ fd : FuncData, (∀ (s : Shared) (v : Value), BindsTo s fd ⟨[v], []⟩ [("_law_script", v)]) ∧ ∀ base : Heap, K.In base → base.Ns mainGlobals mg → FnOk P w K mg base (L2.CX P w) 8 f fd ["_law_script"] (spTrue K) := by
  have T : Ft P w K mg ⟨fun x => some (He.ga K x), P, w⟩ := by
    refine ⟨?_, ?_, ?_, ?_, ?_, ?_, ?_, ?_, ?_, ?_, ?_, ?_, ?_, ?_, ?_, ?_, ?_, ?_, ?_, ?_, ?_, ?_, ?_, ?_, ?_, ?_, ?_, ?_, ?_, ?_, ?_, ?_, ?_, ?_, ?_, ?_, ?_, ?_, ?_, ?_, ?_, ?_, ?_, ?_, ?_, ?_, ?_, ?_, ?_, ?_, ?_, ?_, ?_, ?_, ?_, ?_, ?_, ?_⟩
    · rfl
    · rfl
    · intro y hy
      simp only [cs_members, List.mem_cons, List.not_mem_nil, or_false] at hy
      rcases hy with rfl
      · exact ⟨_, rfl, He.cls_ok (c.a.fact 0 (f := .cls "Glasses") rfl), He.noat_ok (c.a.fact 1 (f := .noat "Glasses" "members") rfl)⟩
    · intro y hy
      simp only [cs_stands, List.mem_cons, List.not_mem_nil, or_false] at hy
      rcases hy with rfl
      · exact ⟨_, rfl, He.cls_ok (c.a.fact 0 (f := .cls "Glasses") rfl), He.noat_ok (c.a.fact 2 (f := .noat "Glasses" "stands") rfl)⟩
    · exact He.free_ok X G (c.a.fact 3 (f := .free "abs") rfl)
    · exact He.free_ok X G (c.a.fact 4 (f := .free "bool") rfl)
    · exact He.free_ok X G (c.a.fact 5 (f := .free "enumerate") rfl)
    · exact He.free_ok X G (c.a.fact 6 (f := .free "int") rfl)
    · exact He.free_ok X G (c.a.fact 7 (f := .free "isinstance") rfl)
    · exact He.free_ok X G (c.a.fact 8 (f := .free "len") rfl)
    · exact He.free_ok X G (c.a.fact 9 (f := .free "list") rfl)
    · exact He.free_ok X G (c.a.fact 10 (f := .free "min") rfl)
    · exact He.free_ok X G (c.a.fact 11 (f := .free "range") rfl)
    · exact He.free_ok X G (c.a.fact 12 (f := .free "set") rfl)
    · exact He.free_ok X G (c.a.fact 13 (f := .free "sorted") rfl)
    · exact He.free_ok X G (c.a.fact 14 (f := .free "str") rfl)
    · exact He.free_ok X G (c.a.fact 15 (f := .free "tuple") rfl)
    · exact He.int_ok X G (c.a.fact 16 (f := .int "MOST_STANDS" 6) rfl)
    · exact excC_of X G (c.a.fact 17 (f := .glo "BadStands") rfl) (c.a.fact 18 (f := .exc "BadStands") rfl)
    · exact excC_of X G (c.a.fact 19 (f := .glo "BadLot") rfl) (c.a.fact 20 (f := .exc "BadLot") rfl)
    · refine tab_ok fun p hp => ?_
      simp only [tabL, List.mem_cons, List.not_mem_nil, or_false] at hp
      rcases hp with rfl | rfl | rfl | rfl
      · exact ⟨_, _, rfl, rfl, He.exm_ok (c.a.fact 21 (f := .exm "BadStands" "BadStands" true) rfl)⟩
      · exact ⟨_, _, rfl, rfl, He.exm_ok (c.a.fact 22 (f := .exm "BadStands" "BadLot" false) rfl)⟩
      · exact ⟨_, _, rfl, rfl, He.exm_ok (c.a.fact 23 (f := .exm "BadLot" "BadStands" false) rfl)⟩
      · exact ⟨_, _, rfl, rfl, He.exm_ok (c.a.fact 24 (f := .exm "BadLot" "BadLot" true) rfl)⟩
    · obtain ⟨fd, F⟩ := c.a.def_ 0 (d := d_is_sequence) rfl
      exact ⟨_, fd, F, He.glo_ok X G (c.a.fact 25 (f := .glo "is_sequence") rfl)⟩
    · obtain ⟨fd, F⟩ := c.a.def_ 1 (d := d_is_whole) rfl
      exact ⟨_, fd, F, He.glo_ok X G (c.a.fact 26 (f := .glo "is_whole") rfl)⟩
    · obtain ⟨fd, F⟩ := c.a.def_ 2 (d := d_check_stands) rfl
      exact ⟨_, fd, F, He.glo_ok X G (c.a.fact 27 (f := .glo "check_stands") rfl)⟩
    · obtain ⟨fd, F⟩ := c.a.def_ 3 (d := d_all_stands) rfl
      exact ⟨_, fd, F, He.glo_ok X G (c.a.fact 28 (f := .glo "all_stands") rfl)⟩
    · obtain ⟨fd, F⟩ := c.a.def_ 4 (d := d_check_lot) rfl
      exact ⟨_, fd, F, He.glo_ok X G (c.a.fact 29 (f := .glo "check_lot") rfl)⟩
    · obtain ⟨fd, F⟩ := c.a.def_ 5 (d := d_check_row) rfl
      exact ⟨_, fd, F, He.glo_ok X G (c.a.fact 30 (f := .glo "check_row") rfl)⟩
    · obtain ⟨fd, F⟩ := c.a.def_ 6 (d := d_next_lot) rfl
      exact ⟨_, fd, F, He.glo_ok X G (c.a.fact 31 (f := .glo "next_lot") rfl)⟩
    · obtain ⟨fd, F⟩ := c.a.def_ 7 (d := d_back_lot) rfl
      exact ⟨_, fd, F, He.glo_ok X G (c.a.fact 32 (f := .glo "back_lot") rfl)⟩
    · obtain ⟨fd, F⟩ := c.a.def_ 8 (d := d_Glasses_rounded) rfl
      exact ⟨_, _, fd, rfl, He.cls_ok (c.a.fact 0 (f := .cls "Glasses") rfl), He.meth_ok (c.a.fact 33 (f := .meth "Glasses" "rounded") rfl), F⟩
    · obtain ⟨fd, F⟩ := c.a.def_ 9 (d := d__is_sharp) rfl
      exact ⟨_, fd, F, He.glo_ok X G (c.a.fact 34 (f := .glo "_is_sharp") rfl)⟩
    · obtain ⟨fd, F⟩ := c.a.def_ 10 (d := d_sharp_at) rfl
      exact ⟨_, fd, F, He.glo_ok X G (c.a.fact 35 (f := .glo "sharp_at") rfl)⟩
    · obtain ⟨fd, F⟩ := c.a.def_ 11 (d := d_blurring_lot) rfl
      exact ⟨_, fd, F, He.glo_ok X G (c.a.fact 36 (f := .glo "blurring_lot") rfl)⟩
    · obtain ⟨fd, F⟩ := c.a.def_ 12 (d := d__check_ascending) rfl
      exact ⟨_, fd, F, He.glo_ok X G (c.a.fact 37 (f := .glo "_check_ascending") rfl)⟩
    · obtain ⟨fd, F⟩ := c.a.def_ 13 (d := d__check_meets) rfl
      exact ⟨_, fd, F, He.glo_ok X G (c.a.fact 38 (f := .glo "_check_meets") rfl)⟩
    · obtain ⟨fd, F⟩ := c.a.def_ 14 (d := d__checked_members) rfl
      exact ⟨_, fd, F, He.glo_ok X G (c.a.fact 39 (f := .glo "_checked_members") rfl)⟩
    · obtain ⟨fd, F⟩ := c.a.def_ 15 (d := d_Glasses_init) rfl
      exact ⟨_, _, fd, rfl, He.glo_ok X G (c.a.fact 40 (f := .glo "Glasses") rfl), He.mkr_ok (c.a.fact 41 (f := .mkr "Glasses") rfl), F⟩
    · obtain ⟨fd, F⟩ := c.a.def_ 16 (d := d__law_hand) rfl
      exact ⟨_, fd, F, He.glo_ok X G (c.a.fact 42 (f := .glo "_law_hand") rfl)⟩
    · obtain ⟨fd, F⟩ := c.a.def_ 17 (d := d__law_mixed) rfl
      exact ⟨_, fd, F, He.glo_ok X G (c.a.fact 43 (f := .glo "_law_mixed") rfl)⟩
    · obtain ⟨fd, F⟩ := c.a.def_ 18 (d := d__law_take) rfl
      exact ⟨_, fd, F, He.glo_ok X G (c.a.fact 44 (f := .glo "_law_take") rfl)⟩
    · obtain ⟨fd, F⟩ := c.a.def_ 19 (d := d__law_stands) rfl
      exact ⟨_, fd, F, He.glo_ok X G (c.a.fact 45 (f := .glo "_law_stands") rfl)⟩
    · obtain ⟨fd, F⟩ := c.a.def_ 20 (d := d__law_every) rfl
      exact ⟨_, fd, F, He.glo_ok X G (c.a.fact 46 (f := .glo "_law_every") rfl)⟩
    · obtain ⟨fd, F⟩ := c.a.def_ 21 (d := d__law_within) rfl
      exact ⟨_, fd, F, He.glo_ok X G (c.a.fact 47 (f := .glo "_law_within") rfl)⟩
    · obtain ⟨fd, F⟩ := c.a.def_ 22 (d := d__law_met) rfl
      exact ⟨_, fd, F, He.glo_ok X G (c.a.fact 48 (f := .glo "_law_met") rfl)⟩
    · obtain ⟨fd, F⟩ := c.a.def_ 23 (d := d__law_members) rfl
      exact ⟨_, fd, F, He.glo_ok X G (c.a.fact 49 (f := .glo "_law_members") rfl)⟩
    · obtain ⟨fd, F⟩ := c.a.def_ 24 (d := d__law_rounded) rfl
      exact ⟨_, fd, F, He.glo_ok X G (c.a.fact 50 (f := .glo "_law_rounded") rfl)⟩
    · obtain ⟨fd, F⟩ := c.a.def_ 25 (d := d__law_single) rfl
      exact ⟨_, fd, F, He.glo_ok X G (c.a.fact 51 (f := .glo "_law_single") rfl)⟩
    · obtain ⟨fd, F⟩ := c.a.def_ 26 (d := d__law_drawn_row) rfl
      exact ⟨_, fd, F, He.glo_ok X G (c.a.fact 52 (f := .glo "_law_drawn_row") rfl)⟩
    · obtain ⟨fd, F⟩ := c.a.def_ 27 (d := d__law_next) rfl
      exact ⟨_, fd, F, He.glo_ok X G (c.a.fact 53 (f := .glo "_law_next") rfl)⟩
    · obtain ⟨fd, F⟩ := c.a.def_ 28 (d := d__law_back) rfl
      exact ⟨_, fd, F, He.glo_ok X G (c.a.fact 54 (f := .glo "_law_back") rfl)⟩
    · obtain ⟨fd, F⟩ := c.a.def_ 29 (d := d__law_list) rfl
      exact ⟨_, fd, F, He.glo_ok X G (c.a.fact 55 (f := .glo "_law_list") rfl)⟩
    · obtain ⟨fd, F⟩ := c.a.def_ 30 (d := d__law_int) rfl
      exact ⟨_, fd, F, He.glo_ok X G (c.a.fact 56 (f := .glo "_law_int") rfl)⟩
    · obtain ⟨fd, F⟩ := c.a.def_ 31 (d := d__law_exact) rfl
      exact ⟨_, fd, F, He.glo_ok X G (c.a.fact 57 (f := .glo "_law_exact") rfl)⟩
    · obtain ⟨fd, F⟩ := c.a.def_ 32 (d := d__law_rounds) rfl
      exact ⟨_, fd, F, He.glo_ok X G (c.a.fact 58 (f := .glo "_law_rounds") rfl)⟩
    · obtain ⟨fd, F⟩ := c.a.def_ 33 (d := d__law_alike) rfl
      exact ⟨_, fd, F, He.glo_ok X G (c.a.fact 59 (f := .glo "_law_alike") rfl)⟩
    · obtain ⟨fd, F⟩ := c.a.def_ 34 (d := d__law_refined) rfl
      exact ⟨_, fd, F, He.glo_ok X G (c.a.fact 60 (f := .glo "_law_refined") rfl)⟩
    · obtain ⟨fd, F⟩ := c.a.def_ 35 (d := d__law_rich_members) rfl
      exact ⟨_, fd, F, He.glo_ok X G (c.a.fact 61 (f := .glo "_law_rich_members") rfl)⟩
    · obtain ⟨fd, F⟩ := c.a.def_ 36 (d := d_law) rfl
      exact ⟨_, fd, F, He.glo_ok X G (c.a.fact 62 (f := .glo "law") rfl)⟩
  obtain ⟨fd, F⟩ := c.a.def_ 36 (d := d_law) rfl
  have e := hfa.symm.trans (He.glo_ok X G (c.a.fact 62 (f := .glo "law") rfl))
  cases e
  have b := FunD.bindsA (ps := ["_law_script"]) F fun _ _ _ _ _ _ us hl => match us, hl with | [_], _ => rfl
  exact ⟨fd, fun s v => b s [v] rfl, fun base _ _ => law_true (ok_law T F) main⟩
end LW
open PySem PySem.W PySem.Calls PyProof.Rows
theorem LW.ends (main : ∀ ns : List Int, ns.length ≤ 63 → LW.fn_law [.scr ns] = .ret (.bl true) []) : PySem.Challenge.rw_truealarms_k19_whole_sharp_lots_by_back.Holds := by
  w_on; o_law
  refine HandSHeadRun.head_any (r := OpenLaw.row PySem.Challenge.rw_truealarms_k19_whole_sharp_lots_by_back) (q := view (OpenLaw.row PySem.Challenge.rw_truealarms_k19_whole_sharp_lots_by_back).prog [48]) (H := LW.hk) (ob := LW.ob) (M := 6000) (loose := LW.loose) (d := HandSHeadRun.topDef (OpenLaw.row PySem.Challenge.rw_truealarms_k19_whole_sharp_lots_by_back).prog 48) (kwd := []) LW.ob_eq
    (by kernel_rfl) (fun s => by kernel_rfl) LW.run (by kernel_rfl) (by kernel_rfl) (by kernel_rfl) (by rfl) (by first | assumption | decide +kernel) (by decide +kernel) ⟨rfl, rfl, rfl, rfl, rfl, by decide +kernel⟩ ?hw ?hc
  case hw => w_witness2
  case hc =>
    refine DL.end_ofW (l := PySem.Challenge.rw_truealarms_k19_whole_sharp_lots_by_back) (k := 8) (x := "_law_script") rfl (by kernel_rfl) ⟨rfl, by decide, by decide⟩ fun w mg fa h Y G hmg0 => ?_
    obtain ⟨K, KX, c⟩ := Y
    have hmg : mg ("law" : PySem.Str) = some (.ref fa) := by
      have e : (HandSHeadRun.topDef (OpenLaw.row PySem.Challenge.rw_truealarms_k19_whole_sharp_lots_by_back).prog 48).name = ("law" : PySem.Str) := by kernel_rfl
      rw [← e]
      exact hmg0
    obtain ⟨fd, hb, hF⟩ := LW.facts (P := (PySem.Challenge.rw_truealarms_k19_whole_sharp_lots_by_back).prog) (w := w) main KX G hmg c
    exact ⟨K, fd, KX, hb, hF⟩

theorem PySem.Challenge.cw_truealarms_k19_whole_sharp_lots_by_back_holds : PySem.Challenge.rw_truealarms_k19_whole_sharp_lots_by_back.Holds := by
  exact LW.ends LW.main
