import PyProof.Rows.All
import Wide.All
import OpenK.AllK
import Wide.FinOn
import HandS.ForMost
import HandS.WordsExc
import HandS.Deep
import HandS.CallSlots
import HandS.TryMany
import HandS.Gcd
import HandS.Flow
import HandS.Lambda
import HandS.Star
import HandS.FStr
import HandS.HeadHook2
import HandS.HeadHook4
import HandS.HeadWalk
import HandS.Head2
import HandS.Head3
import PySem.Challenge.RW_luckwright_k01_exact_parts
set_option Elab.async false
set_option linter.all false
set_option maxRecDepth 100000
set_option maxHeartbeats 0
/-! LwA: a program's pure parts by what they reckon: plain functions over data (PyData), and that readings of HandS follow them. -/
namespace LW
open PySem PySem.Spec PyProof.Rows L2

/-! ### values known as data -/
def keyD : Key → PyData
  | .inl i => .int i
  | .inr s => .str s
mutual
inductive Rp (K : PySem.W.Frag) (G : Hp) : V → PyData → Prop
  | non : Rp K G .non .none
  | bl (b : Bool) : Rp K G (.bl b) (.bool b)
  | int (i : Int) : Rp K G (.int i) (.int i)
  | str (x : Str) : Rp K G (.str x) (.str x)
  | lst {a : Addr} {xs : List V} {ds : List PyData} : G a = some (.lst xs) → RpA K G xs ds → Rp K G (.ref a) (.list ds)
  | tup {a : Addr} {xs : List V} {ds : List PyData} : SqT K G a xs → RpA K G xs ds → Rp K G (.ref a) (.tuple ds)
  | dct {a : Addr} {kvs : List (Key × V)} {ds : List (PyData × PyData)} : G a = some (.dK kvs) → RpK K G kvs ds → Rp K G (.ref a) (.dict ds)
inductive RpA (K : PySem.W.Frag) (G : Hp) : List V → List PyData → Prop
  | nil : RpA K G [] []
  | cons {v : V} {vs : List V} {d : PyData} {ds : List PyData} : Rp K G v d → RpA K G vs ds → RpA K G (v :: vs) (d :: ds)
inductive RpK (K : PySem.W.Frag) (G : Hp) : List (Key × V) → List (PyData × PyData) → Prop
  | nil : RpK K G [] []
  | cons {k : Key} {v : V} {kvs : List (Key × V)} {d : PyData} {ds : List (PyData × PyData)} : Rp K G v d → RpK K G kvs ds → RpK K G ((k, v) :: kvs) ((keyD k, d) :: ds)
end
section
variable {K : PySem.W.Frag} {G G' : Hp}
theorem sqt_same {a : Addr} {xs : List V} (s : Same G G') (h : SqT K G a xs) : SqT K G' a xs := by
  rcases h with (h | ⟨o, h⟩) | h
  · exact .inl (.inl (s _ _ h))
  · exact .inl (.inr ⟨o, s _ _ h⟩)
  · exact .inr h
mutual
theorem Rp.mono (s : Same G G') : ∀ (d : PyData) (v : V), Rp K G v d → Rp K G' v d
  | .none, _, h => by cases h; exact .non
  | .bool b, _, h => by cases h; exact .bl b
  | .int i, _, h => by cases h; exact .int i
  | .str x, _, h => by cases h; exact .str x
  | .list ds, _, h => by
    cases h with
    | lst h1 h2 => exact .lst (s _ _ h1) (RpA.mono s ds _ h2)
  | .tuple ds, _, h => by
    cases h with
    | tup h1 h2 => exact .tup (sqt_same s h1) (RpA.mono s ds _ h2)
  | .dict ds, _, h => by
    cases h with
    | dct h1 h2 => exact .dct (s _ _ h1) (RpK.mono s ds _ h2)
theorem RpA.mono (s : Same G G') : ∀ (ds : List PyData) (vs : List V), RpA K G vs ds → RpA K G' vs ds
  | [], _, h => by cases h; exact .nil
  | d :: ds, _, h => by
    cases h with
    | cons h1 h2 => exact .cons (Rp.mono s d _ h1) (RpA.mono s ds _ h2)
theorem RpK.mono (s : Same G G') : ∀ (ds : List (PyData × PyData)) (vs : List (Key × V)), RpK K G vs ds → RpK K G' vs ds
  | [], _, h => by cases h; exact .nil
  | (e, d) :: ds, _, h => by
    cases h with
    | cons h1 h2 => exact .cons (Rp.mono s d _ h1) (RpK.mono s ds _ h2)
end
mutual
theorem Rp.dp : ∀ (d : PyData) (v : V), d.canLay0 = true → Rp K G v d → Dp K G v d
  | .none, _, _, h => by cases h; exact .non
  | .bool b, _, _, h => by cases h; exact .bl b
  | .int i, _, _, h => by cases h; exact .int i
  | .str x, _, _, h => by cases h; exact .str x
  | .list ds, _, c, h => by
    cases h with
    | lst h1 h2 => exact .lst (SqL.of h1) (RpA.dp ds _ (by simpa [PyData.canLay0] using c) h2)
  | .tuple ds, _, c, h => by
    cases h with
    | tup h1 h2 => exact .tup h1 (RpA.dp ds _ (by simpa [PyData.canLay0] using c) h2)
  | .dict _, _, c, h => by simp [PyData.canLay0] at c
theorem RpA.dp : ∀ (ds : List PyData) (vs : List V), PyData.canLayAll0 ds = true → RpA K G vs ds → DpAll K G vs ds
  | [], _, _, h => by cases h; exact .nil
  | d :: ds, _, c, h => by
    have c' : d.canLay0 = true ∧ PyData.canLayAll0 ds = true := by simpa [PyData.canLayAll0] using c
    cases h with
    | cons h1 h2 => exact .cons (Rp.dp d _ c'.1 h1) (RpA.dp ds _ c'.2 h2)
end
theorem RpA.length {vs : List V} {ds : List PyData} (h : RpA K G vs ds) : vs.length = ds.length := by
  induction ds generalizing vs with
  | nil => cases h; rfl
  | cons d ds ih =>
    cases h with
    | cons h1 h2 => simp [ih h2]
theorem RpA.get {vs : List V} {ds : List PyData} (h : RpA K G vs ds) {i : Nat} {d : PyData} (e : ds[i]? = some d) : ∃ v, vs[i]? = some v ∧ Rp K G v d := by
  induction ds generalizing vs i with
  | nil => cases e
  | cons d0 ds ih =>
    cases h with
    | cons h1 h2 =>
      cases i with
      | zero => cases e; exact ⟨_, rfl, h1⟩
      | succ i => exact ih h2 e
theorem RpA.getV {vs : List V} {ds : List PyData} (h : RpA K G vs ds) {i : Nat} {v : V} (e : vs[i]? = some v) : ∃ d, ds[i]? = some d ∧ Rp K G v d := by
  induction ds generalizing vs i with
  | nil => cases h; cases e
  | cons d0 ds ih =>
    cases h with
    | cons h1 h2 =>
      cases i with
      | zero => cases e; exact ⟨_, rfl, h1⟩
      | succ i => exact ih h2 e
theorem RpA.append {vs ws : List V} {ds es : List PyData} (h : RpA K G vs ds) (h' : RpA K G ws es) : RpA K G (vs ++ ws) (ds ++ es) := by
  induction ds generalizing vs with
  | nil => cases h; exact h'
  | cons d ds ih =>
    cases h with
    | cons h1 h2 => exact .cons h1 (ih h2)
theorem RpA.set {vs : List V} {ds : List PyData} (h : RpA K G vs ds) (i : Nat) {v : V} {d : PyData} (hv : Rp K G v d) : RpA K G (vs.set i v) (ds.set i d) := by
  induction ds generalizing vs i with
  | nil => cases h; exact .nil
  | cons d0 ds ih =>
    cases h with
    | cons h1 h2 =>
      cases i with
      | zero => exact .cons hv h2
      | succ i => exact .cons h1 (ih h2 i)
theorem RpA.drop {vs : List V} {ds : List PyData} (h : RpA K G vs ds) (n : Nat) : RpA K G (vs.drop n) (ds.drop n) := by
  induction ds generalizing vs n with
  | nil => cases h; simp; exact .nil
  | cons d0 ds ih =>
    cases n with
    | zero => exact h
    | succ n =>
      cases h with
      | cons h1 h2 => exact ih h2 n
theorem RpA.take {vs : List V} {ds : List PyData} (h : RpA K G vs ds) (n : Nat) : RpA K G (vs.take n) (ds.take n) := by
  induction ds generalizing vs n with
  | nil => cases h; simp; exact .nil
  | cons d0 ds ih =>
    cases n with
    | zero => exact .nil
    | succ n =>
      cases h with
      | cons h1 h2 => exact .cons h1 (ih h2 n)
end

/-! ### answers -/
inductive R (α : Type) where
  | ok (a : α)
  | rai (c : Nat)
  | stuck
def R.bind {α β : Type} (r : R α) (f : α → R β) : R β := match r with
  | .ok a => f a
  | .rai c => .rai c
  | .stuck => .stuck
/-- what a slot holds: data, or a list of the def's own (m: handed in to be changed) -/
inductive Sl where
  | sh (d : PyData)
  | ow (m : Bool) (ds : List PyData)
abbrev LEnv := List (Option Sl)
abbrev RE (α : Type) := R (LEnv × α)
abbrev M := LEnv → RE PyData
abbrev MA := LEnv → RE (List PyData)
abbrev MT := LEnv → RE Bool
inductive RS where
  | nx (e : LEnv)
  | rt (e : LEnv) (d : PyData)
  | bk (e : LEnv)
  | ct (e : LEnv)
  | rai (c : Nat)
  | stuck
abbrev MS := LEnv → RS
def nth {α : Type} : List α → Nat → Option α
  | [], _ => none
  | a :: _, 0 => some a
  | _ :: l, n + 1 => nth l n
theorem nth_eq {α : Type} : ∀ (l : List α) (n : Nat), nth l n = l[n]?
  | [], n => by simp [nth]
  | a :: l, 0 => by simp [nth]
  | a :: l, n + 1 => by simp [nth, nth_eq l n]

/-- no table of code objects -/
def nt (o : HO) : Prop := ∀ ps, o ≠ .tbl ps
theorem nt_lst {xs : List V} : nt (.lst xs) := fun _ h => nomatch h
theorem nt_tup {xs : List V} : nt (.tup xs) := fun _ h => nomatch h
def Own (env : LEnv) (i : Nat) : Prop := ∃ m ds, env[i]? = some (some (.ow m ds))
/-- the errors' classes by number; the tables of the defs that hold lambdas -/
structure Cl where
  cl : Nat → Value
  T : List (Addr × Str)
/-- all but the lists that may change, and the tables, stand as at the start -/
structure Fz (T : List (Addr × Str)) (ch : Addr → Prop) (H0 H : Hp) : Prop where
  k : ∀ b o, ¬ ch b → nt o → H0 b = some o → H b = some o
  tb : LamX.Tabs T H
/-- nothing but a table stands there -/
def Nw (H : Hp) (a : Addr) : Prop := ∀ u, nt u → H a ≠ some u
theorem nw_of {H : Hp} {a : Addr} (e : H a = none) : Nw H a := fun u _ z => by rw [e] at z; cases z
theorem Fz.nw {T : List (Addr × Str)} {ch : Addr → Prop} {H0 H : Hp} (f : Fz T ch H0 H) {a : Addr} (hc : ¬ ch a) (e : Nw H a) : Nw H0 a := fun u n z => e u n (f.k a u hc n z)
theorem Fz.refl {T : List (Addr × Str)} {ch : Addr → Prop} {H : Hp} (t : LamX.Tabs T H) : Fz T ch H H := ⟨fun _ _ _ _ e => e, t⟩
theorem Fz.same {T : List (Addr × Str)} {ch : Addr → Prop} {H0 H H' : Hp} (f : Fz T ch H0 H) (s : Same H H') : Fz T ch H0 H' := ⟨fun b o m n e => s _ _ (f.k b o m n e), f.tb.ext s⟩
theorem Fz.trans {T : List (Addr × Str)} {ch : Addr → Prop} {H0 H H' : Hp} (f : Fz T ch H0 H) (s : Fz T (fun _ => False) H H') : Fz T ch H0 H' :=
  ⟨fun b o m n e => s.k b o (fun z => z) n (f.k b o m n e), s.tb⟩
/-- the tables ask nothing of lists -/
theorem tabs_but {T : List (Addr × Str)} {H H' : Hp} (t : LamX.Tabs T H) (k : ∀ b o, H b = some o → (∀ xs, o ≠ .lst xs) → H' b = some o) : LamX.Tabs T H' := fun p hp => by
  obtain ⟨ps, a1, a2, a3⟩ := t p hp
  refine ⟨ps, k _ _ a1 (fun _ z => by cases z), a2, fun pos cv hcv => ?_⟩
  obtain ⟨c, e, hc⟩ := a3 pos cv hcv
  exact ⟨c, e, k _ _ hc fun xs z => by unfold LamX.CodeO at z; cases z⟩
/-- the lists that may be changed; those among them that were handed in -/
structure Mu where
  ch : Addr → Prop
  fl : Addr → Prop
  sub : ∀ a, fl a → ch a
def mu0 : Mu := ⟨fun _ => False, fun _ => False, fun _ h => h⟩
/-- the state: G what may be read as data, H all; σ the slots; G0, H0 those of the def's start; mu the lists handed in to be changed -/
structure StR (K : PySem.W.Frag) (C : Cl) (mu : Mu) (G0 H0 : Hp) (env : LEnv) (σ : L2.St) (G H : Hp) : Prop where
  sub : Same G H
  ng : ∀ a o, G a = some o → nt o
  g0 : Same G0 G
  fz : Fz C.T mu.ch H0 H
  new : ∀ a o, G a = some o → G0 a = some o ∨ (Nw H0 a ∧ nt o)
  mh : ∀ a, mu.ch a → ∃ xs, H a = some (.lst xs)
  len : env.length = σ.length
  sh : ∀ (i : Nat) d, env[i]? = some (some (.sh d)) → ∃ v, σ[i]? = some (some v) ∧ Rp K G v d
  ol : ∀ (i : Nat) m ds, env[i]? = some (some (.ow m ds)) → ∃ p vs, σ[i]? = some (some (.ref p)) ∧ H p = some (.lst vs) ∧ RpA K G vs ds ∧ G p = none ∧ (if m = true then mu.fl p else mu.ch p ∨ Nw H0 p)
  ow : ∀ (i j : Nat) p, Own env i → Own env j → σ[i]? = some (some (.ref p)) → σ[j]? = some (some (.ref p)) → i = j
/-- more objects; those that may be read among them are new -/
structure Xt (T : List (Addr × Str)) (G H G' H' : Hp) : Prop where
  g : Same G G'
  s : Same G' H'
  h : Fz T (fun _ => False) H H'
  n : ∀ a o, G' a = some o → G a = some o ∨ (Nw H a ∧ nt o)
theorem Xt.trans {T : List (Addr × Str)} {G H G1 H1 G2 H2 : Hp} (a : Xt T G H G1 H1) (b : Xt T G1 H1 G2 H2) : Xt T G H G2 H2 := ⟨a.g.trans b.g, b.s, a.h.trans b.h, fun p o e => by
  rcases b.n p o e with e | e
  · exact a.n p o e
  · exact .inr ⟨a.h.nw (fun z => z) e.1, e.2⟩⟩
theorem same_new {H : Hp} {p : Addr} {o : HO} (hp : H p = none) : Same H (upd H p o) := fun a u e => by rw [upd_ne (ne_of_none e hp)]; exact e
/-- a new object that may be read -/
theorem Xt.new {T : List (Addr × Str)} {G H : Hp} {p : Addr} {o : HO} (s : Same G H) (t : LamX.Tabs T H) (hp : H p = none) (ho : nt o) : Xt T G H (upd G p o) (upd H p o) := by
  have gp : G p = none := s.free hp
  refine ⟨same_new gp, fun a u e => ?_, (Fz.refl t).same (same_new hp), fun a u e => ?_⟩
  · by_cases h : a = p
    · subst h; rw [upd_same] at e ⊢; exact e
    · rw [upd_ne h] at e ⊢; exact s _ _ e
  · by_cases h : a = p
    · subst h; rw [upd_same] at e; cases e; exact .inr ⟨nw_of hp, ho⟩
    · rw [upd_ne h] at e; exact .inl e
/-- a new object that may not be read -/
theorem Xt.hid {T : List (Addr × Str)} {G H : Hp} {p : Addr} {o : HO} (s : Same G H) (t : LamX.Tabs T H) (hp : H p = none) : Xt T G H G (upd H p o) :=
  ⟨.refl _, fun a u e => by rw [upd_ne (ne_of_none (s _ _ e) hp)]; exact s _ _ e, (Fz.refl t).same (same_new hp), fun _ _ h => .inl h⟩
section
variable {K : PySem.W.Frag} {C : Cl} {mu : Mu} {G0 H0 G H G' H' : Hp} {env : LEnv} {σ : L2.St}
theorem StR.noch (S : StR K C mu G0 H0 env σ G H) {a : Addr} (e : Nw H a) : ¬ mu.ch a := fun z => by
  obtain ⟨xs, h⟩ := S.mh a z
  exact e _ nt_lst h
theorem StR.none0 (S : StR K C mu G0 H0 env σ G H) {a : Addr} (e : Nw H a) : Nw H0 a := S.fz.nw (S.noch e) e
theorem StR.ext (S : StR K C mu G0 H0 env σ G H) (x : Xt C.T G H G' H') : StR K C mu G0 H0 env σ G' H' where
  sub := x.s
  ng := fun a o e => by
    rcases x.n a o e with e | e
    · exact S.ng a o e
    · exact e.2
  g0 := S.g0.trans x.g
  fz := S.fz.trans x.h
  new := fun a o e => by
    rcases x.n a o e with e | e
    · exact S.new a o e
    · exact .inr ⟨S.none0 e.1, e.2⟩
  mh := fun a m => let ⟨xs, e⟩ := S.mh a m; ⟨xs, x.h.k a _ (fun z => z) nt_lst e⟩
  len := S.len
  sh := fun i d e => let ⟨v, h1, h2⟩ := S.sh i d e; ⟨v, h1, Rp.mono x.g d v h2⟩
  ol := fun i m ds e => by
    obtain ⟨p, vs, h1, h2, h3, h4, h5⟩ := S.ol i m ds e
    refine ⟨p, vs, h1, x.h.k p _ (fun z => z) nt_lst h2, RpA.mono x.g _ _ h3, ?_, h5⟩
    cases q : G' p with
    | none => rfl
    | some o =>
      rcases x.n p o q with z | z
      · rw [h4] at z; cases z
      · exact (z.1 _ nt_lst h2).elim
  ow := S.ow
end
end LW

namespace LW
open PySem PySem.Spec PyProof.Rows L2
section
variable {K : PySem.W.Frag} {mu : Mu} {G0 H0 G H G' H' : Hp} {env : LEnv} {σ : L2.St} {C : Cl} {E : XK} {α β γ δ : Type}
/-- what an answer owes to what is wished -/
def Post (Rl : Hp → β → α → Prop) (K : PySem.W.Frag) (C : Cl) (E : XK) (mu : Mu) (G0 H0 : Hp) (σ : L2.St) (G : Hp) : RE α → (β → Hp → Prop) → Prop
  | .ok p, Q => ∀ v G' H', StR K C mu G0 H0 p.1 σ G' H' → Same G G' → Rl G' v p.2 → Q v H'
  | .rai c, _ => ∀ H', Fz C.T mu.ch H0 H' → E (C.cl c) none H'
  | .stuck, _ => False
theorem Post.mono {Rl : Hp → β → α → Prop} {r : RE α} {Q : β → Hp → Prop} (s : Same G G') (h : Post Rl K C E mu G0 H0 σ G r Q) : Post Rl K C E mu G0 H0 σ G' r Q := by
  cases r with
  | ok p => exact fun v G2 H2 S s2 r => h v G2 H2 S (s.trans s2) r
  | rai c => exact h
  | stuck => exact h
theorem Post.bind {Rl1 : Hp → β → α → Prop} {Rl2 : Hp → δ → γ → Prop} {r : RE α} {f : LEnv × α → RE γ} {Q : δ → Hp → Prop} {Q1 : β → Hp → Prop} (h : Post Rl2 K C E mu G0 H0 σ G (r.bind f) Q)
    (k : ∀ p v G' H', StR K C mu G0 H0 p.1 σ G' H' → Same G G' → Rl1 G' v p.2 → Post Rl2 K C E mu G0 H0 σ G' (f p) Q → Q1 v H') : Post Rl1 K C E mu G0 H0 σ G r Q1 := by
  cases r with
  | ok p =>
    intro v G' H' S s r
    refine k p v G' H' S s r ?_
    have h : Post Rl2 K C E mu G0 H0 σ G (f p) Q := h
    cases e : f p with
    | ok q => rw [e] at h; exact fun v2 G2 H2 S2 s2 r2 => h v2 G2 H2 S2 (s.trans s2) r2
    | rai c => rw [e] at h; exact h
    | stuck => rw [e] at h; exact h
  | rai c => exact h
  | stuck => exact h
/-- only where a check holds -/
def gd {α : Type} (c : Bool) (r : R α) : R α := match c with
  | true => r
  | false => .stuck
theorem Post.gd {Rl : Hp → β → α → Prop} {c : Bool} {r : RE α} {Q : β → Hp → Prop} (h : Post Rl K C E mu G0 H0 σ G (gd c r) Q) : c = true ∧ Post Rl K C E mu G0 H0 σ G r Q := by
  cases c with
  | true => exact ⟨rfl, h⟩
  | false => exact h.elim
def lif {α : Type} (env : LEnv) (r : R α) : RE α := r.bind fun a => .ok (env, a)
theorem Post.gdL {Rl : Hp → β → α → Prop} {c : Bool} {r : R α} {Q : β → Hp → Prop} (h : Post Rl K C E mu G0 H0 σ G (lif env (LW.gd c r)) Q) : c = true ∧ Post Rl K C E mu G0 H0 σ G (lif env r) Q := by
  cases c with
  | true => exact ⟨rfl, h⟩
  | false => exact h.elim
abbrev RlE (K : PySem.W.Frag) : Hp → V → PyData → Prop := fun G v d => Rp K G v d
abbrev RlA (K : PySem.W.Frag) : Hp → List V → List PyData → Prop := fun G v d => RpA K G v d
abbrev RlT : Hp → Bool → Bool → Prop := fun _ b c => b = c
abbrev PostE (K : PySem.W.Frag) := Post (RlE K) K
def Snd (K : PySem.W.Frag) (C : Cl) (E : XK) (te : TE) (m : M) : Prop := ∀ mu G0 H0 env σ G H Q, StR K C mu G0 H0 env σ G H → Post (RlE K) K C E mu G0 H0 σ G (m env) Q → te σ H Q
def SndA (K : PySem.W.Frag) (C : Cl) (E : XK) (ta : TA) (m : MA) : Prop := ∀ mu G0 H0 env σ G H Q, StR K C mu G0 H0 env σ G H → Post (RlA K) K C E mu G0 H0 σ G (m env) Q → ta σ H Q
def SndT (K : PySem.W.Frag) (C : Cl) (E : XK) (tt : TT) (m : MT) : Prop := ∀ mu G0 H0 env σ G H Q, StR K C mu G0 H0 env σ G H → Post RlT K C E mu G0 H0 σ G (m env) Q → tt σ H Q
/-- an operation of two values -/
def OpS (K : PySem.W.Frag) (C : Cl) (E : XK) (r : R2) (op : PyData → PyData → R PyData) : Prop := ∀ mu G0 H0 env σ G H x y dx dy Q, StR K C mu G0 H0 env σ G H → Rp K G x dx → Rp K G y dy → Post (RlE K) K C E mu G0 H0 σ G (lif env (op dx dy)) Q → r x y H Q
def UnS (K : PySem.W.Frag) (C : Cl) (E : XK) (r : V → Hp → VK → Prop) (op : PyData → R PyData) : Prop := ∀ mu G0 H0 env σ G H x dx Q, StR K C mu G0 H0 env σ G H → Rp K G x dx → Post (RlE K) K C E mu G0 H0 σ G (lif env (op dx)) Q → r x H Q
def CaS (K : PySem.W.Frag) (C : Cl) (E : XK) (r : List V → Hp → VK → Prop) (op : List PyData → R PyData) : Prop := ∀ mu G0 H0 env σ G H xs ds Q, StR K C mu G0 H0 env σ G H → RpA K G xs ds → Post (RlE K) K C E mu G0 H0 σ G (lif env (op ds)) Q → r xs H Q
/-- an answer by the same heap -/
theorem post_here {Rl : Hp → β → α → Prop} {env : LEnv} {a : α} {Q : β → Hp → Prop} (S : StR K C mu G0 H0 env σ G H) (h : Post Rl K C E mu G0 H0 σ G (.ok (env, a)) Q) {v : β} (r : Rl G v a) : Q v H := h v G H S (.refl _) r
/-- an answer by a new object -/
theorem post_new {Rl : Hp → β → α → Prop} {env : LEnv} {a : α} {Q : β → Hp → Prop} (S : StR K C mu G0 H0 env σ G H) (h : Post Rl K C E mu G0 H0 σ G (.ok (env, a)) Q) {p : Addr} (hp : H p = none) (o : HO) (ho : nt o) {v : β} (r : Rl (upd G p o) v a) : Q v (upd H p o) := 
  let x := Xt.new (o := o) S.sub S.fz.tb hp ho
  h v _ _ (S.ext x) x.g r

/-! ### names, constants, operations -/
def mVar (i : Nat) : M := fun env => match nth env i with
  | some (some (.sh d)) => .ok (env, d)
  | _ => .stuck
theorem snd_var {i : Nat} : Snd K C E (tVar i) (mVar i) := by
  intro mu G0 H0 env σ G H Q S h
  unfold mVar at h
  rw [nth_eq] at h
  split at h
  · rename_i d e
    obtain ⟨v, h1, h2⟩ := S.sh i d e
    exact ⟨v, h1, post_here S h h2⟩
  · exact h.elim
def mC (d : PyData) : M := fun env => .ok (env, d)
theorem snd_c {v : V} {d : PyData} (r : ∀ G : Hp, Rp K G v d) : Snd K C E (tC v) (mC d) := fun mu G0 H0 env σ G H Q S h => post_here S h (r G)
def mOp (op : PyData → PyData → R PyData) (f g : M) : M := fun env => (f env).bind fun p => (g p.1).bind fun q => lif q.1 (op p.2 q.2)
theorem snd_op {r : R2} {op : PyData → PyData → R PyData} {ta tb : TE} {f g : M} (hr : OpS K C E r op) (ha : Snd K C E ta f) (hb : Snd K C E tb g) : Snd K C E (tOp r ta tb) (mOp op f g) := by
  intro mu G0 H0 env σ G H Q S h
  refine ha _ _ _ _ _ _ _ _ S (h.bind fun p x G1 H1 S1 s1 r1 h1 => ?_)
  refine hb _ _ _ _ _ _ _ _ S1 (h1.bind fun q y G2 H2 S2 s2 r2 h2 => ?_)
  exact hr _ _ _ _ _ _ _ _ _ _ _ _ S2 (Rp.mono s2 _ _ r1) r2 h2
def mUn (op : PyData → R PyData) (f : M) : M := fun env => (f env).bind fun p => lif p.1 (op p.2)
theorem snd_un {r : V → Hp → VK → Prop} {op : PyData → R PyData} {ta : TE} {f : M} (hr : UnS K C E r op) (ha : Snd K C E ta f) : Snd K C E (tUn r ta) (mUn op f) := by
  intro mu G0 H0 env σ G H Q S h
  refine ha _ _ _ _ _ _ _ _ S (h.bind fun p x G1 H1 S1 s1 r1 h1 => ?_)
  exact hr _ _ _ _ _ _ _ _ _ _ S1 r1 h1
theorem OpS.or {r r' : R2} {op op' : PyData → PyData → R PyData} {sel : PyData → PyData → Bool} (h : OpS K C E r op) (h' : OpS K C E r' op') :
    OpS K C E (fun x y H Q => r x y H Q ∨ r' x y H Q) (fun a b => bif sel a b then op a b else op' a b) := by
  intro mu G0 H0 env σ G H x y dx dy Q S rx ry q
  have q : Post (RlE K) K C E mu G0 H0 σ G (lif env (bif sel dx dy then op dx dy else op' dx dy)) Q := q
  cases e : sel dx dy with
  | true => rw [e] at q; exact .inl (h _ _ _ _ _ _ _ _ _ _ _ _ S rx ry q)
  | false => rw [e] at q; exact .inr (h' _ _ _ _ _ _ _ _ _ _ _ _ S rx ry q)

/-! ### lists of arguments, displays -/
def maNil : MA := fun env => .ok (env, [])
def maCons (f : M) (g : MA) : MA := fun env => (f env).bind fun p => (g p.1).bind fun q => .ok (q.1, p.2 :: q.2)
theorem snda_nil : SndA K C E tNil maNil := fun mu G0 H0 env σ G H Q S h => post_here S h .nil
theorem snda_cons {te : TE} {ta : TA} {f : M} {g : MA} (h1 : Snd K C E te f) (h2 : SndA K C E ta g) : SndA K C E (tCons te ta) (maCons f g) := by
  intro mu G0 H0 env σ G H Q S h
  refine h1 _ _ _ _ _ _ _ _ S (h.bind fun p x G1 H1 S1 s1 r1 h1' => ?_)
  refine h2 _ _ _ _ _ _ _ _ S1 (h1'.bind fun q y G2 H2 S2 s2 r2 h2' => ?_)
  exact post_here S2 h2' (RpA.cons (Rp.mono s2 _ _ r1) r2)
def small : Nat := 1000000
theorem small_le : small ≤ sizeLine := by rw [sizeLine_eq]; decide
def mTup (g : MA) : M := fun env => (g env).bind fun q => gd (Nat.ble q.2.length small) (.ok (q.1, .tuple q.2))
theorem snd_tup {ta : TA} {g : MA} (h : SndA K C E ta g) : Snd K C E (tTup ta) (mTup g) := by
  intro mu G0 H0 env σ G H Q S hh
  refine h _ _ _ _ _ _ _ _ S (hh.bind fun q xs G1 H1 S1 s1 r1 h1 => ?_)
  obtain ⟨l, h1⟩ := Post.gd h1
  · refine ⟨by rw [r1.length]; exact Nat.le_trans (Nat.le_of_ble_eq_true l) small_le, fun p hp => ?_⟩
    exact post_new S1 h1 hp _ nt_tup (.tup (SqT.of upd_same) (RpA.mono (Xt.new (o := .tup xs) S1.sub S1.fz.tb hp nt_tup).g _ _ r1))
def mLst (g : MA) : M := fun env => (g env).bind fun q => gd (Nat.ble q.2.length small) (.ok (q.1, .list q.2))
theorem snd_lst {ta : TA} {g : MA} (h : SndA K C E ta g) : Snd K C E (tLst ta) (mLst g) := by
  intro mu G0 H0 env σ G H Q S hh
  refine h _ _ _ _ _ _ _ _ S (hh.bind fun q xs G1 H1 S1 s1 r1 h1 => ?_)
  obtain ⟨l, h1⟩ := Post.gd h1
  · refine ⟨by rw [r1.length]; exact Nat.le_trans (Nat.le_of_ble_eq_true l) small_le, fun p hp => ?_⟩
    exact post_new S1 h1 hp _ nt_lst (.lst upd_same (RpA.mono (Xt.new (o := .lst xs) S1.sub S1.fz.tb hp nt_lst).g _ _ r1))

/-! ### operators of values -/
def iAdd : PyData → PyData → R PyData
  | .int a, .int b => .ok (.int (a + b))
  | _, _ => .stuck
theorem ops_addI : OpS K C E (rI0 fun i j => .int (i + j)) iAdd := by
  intro mu G0 H0 env σ G H x y dx dy Q S rx ry h
  cases rx <;> cases ry <;> first | exact h.elim | exact ⟨_, _, rfl, rfl, post_here S h (.int _)⟩
def iSub : PyData → PyData → R PyData
  | .int a, .int b => .ok (.int (a - b))
  | _, _ => .stuck
theorem ops_subI : OpS K C E (rI0 fun i j => .int (i - j)) iSub := by
  intro mu G0 H0 env σ G H x y dx dy Q S rx ry h
  cases rx <;> cases ry <;> first | exact h.elim | exact ⟨_, _, rfl, rfl, post_here S h (.int _)⟩
/-- below 2 ^ 64 on either side -/
def lowI (a : Int) : Bool := Nat.blt a.natAbs 18446744073709551616
theorem lowI_is {a : Int} (h : lowI a = true) : -(2 ^ 64) < a ∧ a < 2 ^ 64 := by
  have h : a.natAbs < 18446744073709551616 := by
    have := Nat.le_of_ble_eq_true h
    omega
  omega
def iMul : PyData → PyData → R PyData
  | .int a, .int b => gd (lowI a || lowI b) (.ok (.int (a * b)))
  | _, _ => .stuck
theorem ops_mulI : OpS K C E (rI CMul fun i j => .int (i * j)) iMul := by
  intro mu G0 H0 env σ G H x y dx dy Q S rx ry h
  cases rx <;> cases ry <;> first | exact h.elim | skip
  rename_i a b
  obtain ⟨c, h⟩ := Post.gdL h
  · skip
    refine ⟨_, _, rfl, rfl, ?_, post_here S h (.int _)⟩
    rcases Bool.or_eq_true_iff.mp c with c | c
    · exact .inl (lowI_is c)
    · exact .inr (lowI_is c)
def divOk (b : Int) : Bool := (match b with | .ofNat 0 => false | _ => true) && Nat.blt b.natAbs 1073741824
theorem divOk_is {b : Int} (h : divOk b = true) : b ≠ 0 ∧ b.natAbs < 1073741824 := by
  unfold divOk at h
  rw [Bool.and_eq_true] at h
  refine ⟨fun z => by subst z; exact absurd h.1 (by decide), ?_⟩
  have := Nat.le_of_ble_eq_true h.2
  omega
def iDiv : PyData → PyData → R PyData
  | .int a, .int b => gd (divOk b) (.ok (.int (a.fdiv b)))
  | _, _ => .stuck
theorem ops_divI : OpS K C E (rI CDivN fun i j => .int (i.fdiv j)) iDiv := by
  intro mu G0 H0 env σ G H x y dx dy Q S rx ry h
  cases rx <;> cases ry <;> first | exact h.elim | skip
  rename_i a b
  obtain ⟨c, h⟩ := Post.gdL h
  · skip
    exact ⟨_, _, rfl, rfl, divOk_is c, post_here S h (.int _)⟩
def notZ (b : Int) : Bool := match b with | .ofNat 0 => false | _ => true
theorem notZ_is {b : Int} (h : notZ b = true) : b ≠ 0 := fun z => by subst z; exact absurd h (by decide)
def iMod : PyData → PyData → R PyData
  | .int a, .int b => gd (notZ b) (.ok (.int (a.fmod b)))
  | _, _ => .stuck
theorem ops_modI : OpS K C E (rI (fun _ j => j ≠ 0) fun i j => .int (i.fmod j)) iMod := by
  intro mu G0 H0 env σ G H x y dx dy Q S rx ry h
  cases rx <;> cases ry <;> first | exact h.elim | skip
  rename_i a b
  obtain ⟨c, h⟩ := Post.gdL h
  · skip
    exact ⟨_, _, rfl, rfl, notZ_is c, post_here S h (.int _)⟩
def iAnd : PyData → PyData → R PyData
  | .int a, .int b => .ok (.int (Builtin.bitAnd a b))
  | _, _ => .stuck
theorem ops_andI : OpS K C E (rI0 fun i j => .int (Builtin.bitAnd i j)) iAnd := by
  intro mu G0 H0 env σ G H x y dx dy Q S rx ry h
  cases rx <;> cases ry <;> first | exact h.elim | exact ⟨_, _, rfl, rfl, post_here S h (.int _)⟩
def uNeg : PyData → R PyData
  | .int a => .ok (.int (-a))
  | _ => .stuck
theorem uns_neg : UnS K C E (rU fun i => .int (-i)) uNeg := by
  intro mu G0 H0 env σ G H x dx Q S rx h
  cases rx <;> first | exact h.elim | exact ⟨_, rfl, post_here S h (.int _)⟩
/-- comparisons of ints -/
def iCmp (p : Int → Int → Bool) : PyData → PyData → R PyData
  | .int a, .int b => .ok (.bool (p a b))
  | _, _ => .stuck
theorem ops_cmp {p : Int → Int → Bool} : OpS K C E (rI0 fun i j => .bl (p i j)) (iCmp p) := by
  intro mu G0 H0 env σ G H x y dx dy Q S rx ry h
  cases rx <;> cases ry <;> first | exact h.elim | exact ⟨_, _, rfl, rfl, post_here S h (.bl _)⟩
/-! == of data -/
def eqA (eq : PyData → PyData → Bool) : List PyData → List PyData → Bool
  | [], [] => true
  | x :: xs, y :: ys => eq x y && eqA eq xs ys
  | _, _ => false
def eqF : Nat → PyData → PyData → Bool
  | _, .int a, .int b => a == b
  | _, .str a, .str b => a == b
  | n + 1, .tuple xs, .tuple ys => eqA (eqF n) xs ys
  | n + 1, .list xs, .list ys => eqA (eqF n) xs ys
  | _, .bool a, .bool b => a == b
  | _, .none, .none => true
  | _, a, b => PyData.eqv a b
def shA (sh : PyData → Bool) : List PyData → Bool
  | [] => true
  | x :: xs => sh x && shA sh xs
def shF : Nat → PyData → Bool
  | _, .int _ => true
  | _, .str x => PyData.strOk x
  | n + 1, .tuple xs => shA (shF n) xs
  | n + 1, .list xs => shA (shF n) xs
  | _, .bool _ => true
  | _, .none => true
  | _, _ => false
theorem eqv_list (xs ys : List PyData) : PyData.eqv (.list xs) (.list ys) = PyData.eqvAll xs ys := by simp [PyData.eqv]
theorem eqA_all {n : Nat} (ih : ∀ d e, shF n d = true → eqF n d e = PyData.eqv d e) : ∀ xs ys, shA (shF n) xs = true → eqA (eqF n) xs ys = PyData.eqvAll xs ys
  | [], [], _ => by simp [eqA, PyData.eqvAll]
  | [], _ :: _, _ => by simp [eqA, PyData.eqvAll]
  | _ :: _, [], _ => by simp [eqA, PyData.eqvAll]
  | x :: xs, y :: ys, h => by
    have h : (shF n x && shA (shF n) xs) = true := h
    rw [Bool.and_eq_true] at h
    simp only [eqA, PyData.eqvAll, ih x y h.1, eqA_all ih xs ys h.2]
theorem eqF_eqv : ∀ (n : Nat) (d e : PyData), shF n d = true → eqF n d e = PyData.eqv d e
  | 0, d, e, h => by
    cases d <;> cases e <;> first | rfl | (exfalso; exact absurd h (by simp [shF])) | simp [eqF, PyData.eqv]
  | n + 1, d, e, h => by
    cases d <;> cases e <;> first
      | (simp only [eqF, PyData.eqv]; exact eqA_all (eqF_eqv n) _ _ h)
      | rfl
      | (simp [eqF, PyData.eqv])
theorem shA_lay {n : Nat} (ih : ∀ d, shF n d = true → d.canLay0 = true ∧ d.depth ≤ n) : ∀ xs, shA (shF n) xs = true → PyData.canLayAll0 xs = true ∧ PyData.depthAll xs ≤ n
  | [], _ => by simp [PyData.canLayAll0, PyData.depthAll]
  | x :: xs, h => by
    have h : (shF n x && shA (shF n) xs) = true := h
    rw [Bool.and_eq_true] at h
    have h1 := ih x h.1
    have h2 := shA_lay ih xs h.2
    simp only [PyData.canLayAll0, PyData.depthAll]
    exact ⟨by rw [h1.1, h2.1]; rfl, by omega⟩
theorem shF_lay : ∀ (n : Nat) (d : PyData), shF n d = true → d.canLay0 = true ∧ d.depth ≤ n
  | 0, d, h => by cases d <;> simp_all [shF, PyData.canLay0, PyData.depth]
  | n + 1, d, h => by
    cases d with
    | list xs =>
      have := shA_lay (shF_lay n) xs h
      simp only [PyData.canLay0, PyData.depth]
      exact ⟨this.1, by omega⟩
    | tuple xs =>
      have := shA_lay (shF_lay n) xs h
      simp only [PyData.canLay0, PyData.depth]
      exact ⟨this.1, by omega⟩
    | _ => simp_all [shF, PyData.canLay0, PyData.depth]
theorem shF_shaped {n : Nat} (hn : n ≤ 64) {d : PyData} (h : shF n d = true) : SeqAt.shaped d = true := by
  have := shF_lay n d h
  unfold SeqAt.shaped
  rw [this.1, Bool.true_and, decide_eq_true_eq]
  omega
def deep : Nat := 12
def iEq : PyData → PyData → R PyData := fun a b => gd (shF deep a && shF deep b) (.ok (.bool (eqF deep a b)))
def iNe : PyData → PyData → R PyData := fun a b => gd (shF deep a && shF deep b) (.ok (.bool (!eqF deep a b)))
theorem ops_eq : OpS K C E (rEqD K) iEq := by
  intro mu G0 H0 env σ G H x y dx dy Q S rx ry h
  obtain ⟨c, h⟩ := Post.gdL h
  · skip
    rw [Bool.and_eq_true] at c
    rw [eqF_eqv deep dx dy c.1] at h
    exact ⟨dx, dy, (Rp.mono S.sub _ _ rx).dp _ _ (shF_lay _ _ c.1).1, (Rp.mono S.sub _ _ ry).dp _ _ (shF_lay _ _ c.2).1, shF_shaped (by decide) c.1, shF_shaped (by decide) c.2, post_here S h (.bl _)⟩
theorem ops_ne : OpS K C E (rNeD K) iNe := by
  intro mu G0 H0 env σ G H x y dx dy Q S rx ry h
  obtain ⟨c, h⟩ := Post.gdL h
  · skip
    rw [Bool.and_eq_true] at c
    rw [eqF_eqv deep dx dy c.1] at h
    exact ⟨dx, dy, (Rp.mono S.sub _ _ rx).dp _ _ (shF_lay _ _ c.1).1, (Rp.mono S.sub _ _ ry).dp _ _ (shF_lay _ _ c.2).1, shF_shaped (by decide) c.1, shF_shaped (by decide) c.2, post_here S h (.bl _)⟩
end
end LW

namespace LW
open PySem PySem.Spec PyProof.Rows L2
section
variable {K : PySem.W.Frag} {mu : Mu} {G0 H0 G H G' H' : Hp} {env : LEnv} {σ : L2.St} {C : Cl} {E : XK} {α β γ δ : Type}
/-! ### tests -/
/-- a value that is True or False, as a test (pt_cmpR) -/
def mtB (f : M) : MT := fun env => (f env).bind fun p => match p.2 with
  | .bool b => .ok (p.1, b)
  | _ => .stuck
theorem sndt_test {te : TE} {f : M} (h : Snd K C E te f) : SndT K C E (tTest te) (mtB f) := by
  intro mu G0 H0 env σ G H Q S hh
  refine h _ _ _ _ _ _ _ _ S (hh.bind fun p x G1 H1 S1 s1 r1 h1 => ?_)
  obtain ⟨e, d⟩ := p
  cases r1 <;> first | exact h1.elim | exact ⟨_, rfl, post_here S1 h1 rfl⟩
theorem sndt_B {te : TE} {f : M} (h : Snd K C E te f) : SndT K C E (tB te) (mtB f) := by
  intro mu G0 H0 env σ G H Q S hh
  refine h _ _ _ _ _ _ _ _ S (hh.bind fun p x G1 H1 S1 s1 r1 h1 => ?_)
  obtain ⟨e, d⟩ := p
  cases r1 <;> first | exact h1.elim | exact ⟨_, rfl, post_here S1 h1 rfl⟩
/-- truth of an int, a bool, a list, a tuple -/
def truD : PyData → R Bool
  | .bool b => .ok b
  | .int i => .ok (i != 0)
  | .list xs => .ok (!xs.isEmpty)
  | .tuple xs => .ok (!xs.isEmpty)
  | .none => .ok false
  | _ => .stuck
def mtTru (f : M) : MT := fun env => (f env).bind fun p => lif p.1 (truD p.2)
theorem RpA.isEmpty {vs : List V} {ds : List PyData} (h : RpA K G vs ds) : vs.isEmpty = ds.isEmpty := by cases h <;> rfl
theorem sndt_tru {te : TE} {f : M} (h : Snd K C E te f) : SndT K C E (fun σ H Q => te σ H fun x H' => ∃ k, TruV K x H' k ∧ Q k H') (mtTru f) := by
  intro mu G0 H0 env σ G H Q S hh
  refine h _ _ _ _ _ _ _ _ S (hh.bind fun p x G1 H1 S1 s1 r1 h1 => ?_)
  obtain ⟨e, d⟩ := p
  cases r1 with
  | non => exact ⟨_, rfl, post_here S1 h1 rfl⟩
  | bl b => exact ⟨_, rfl, post_here S1 h1 rfl⟩
  | int i => exact ⟨_, rfl, post_here S1 h1 rfl⟩
  | str x => exact h1.elim
  | lst a b => exact ⟨_, .inl ⟨_, SqL.of (S1.sub _ _ a), rfl⟩, post_here S1 h1 (by rw [b.isEmpty])⟩
  | tup a b => exact ⟨_, .inr (.inl ⟨_, sqt_same S1.sub a, rfl⟩), post_here S1 h1 (by rw [b.isEmpty])⟩
  | dct a b => exact h1.elim
def mtAnd (f g : MT) : MT := fun env => (f env).bind fun p => bif p.2 then g p.1 else .ok (p.1, false)
theorem sndt_and {t u : TT} {f g : MT} (h1 : SndT K C E t f) (h2 : SndT K C E u g) : SndT K C E (tAnd t u) (mtAnd f g) := by
  intro mu G0 H0 env σ G H Q S hh
  refine h1 _ _ _ _ _ _ _ _ S (hh.bind fun p x G1 H1 S1 s1 r1 h1' => ?_)
  obtain ⟨e, b⟩ := p
  obtain rfl : x = b := r1
  cases x with
  | true => exact iteT (h2 _ _ _ _ _ _ _ _ S1 h1')
  | false => exact iteF (post_here S1 h1' rfl)
def mtOr (f g : MT) : MT := fun env => (f env).bind fun p => bif p.2 then .ok (p.1, true) else g p.1
theorem sndt_or {t u : TT} {f g : MT} (h1 : SndT K C E t f) (h2 : SndT K C E u g) : SndT K C E (tOr t u) (mtOr f g) := by
  intro mu G0 H0 env σ G H Q S hh
  refine h1 _ _ _ _ _ _ _ _ S (hh.bind fun p x G1 H1 S1 s1 r1 h1' => ?_)
  obtain ⟨e, b⟩ := p
  obtain rfl : x = b := r1
  cases x with
  | true => exact iteT (post_here S1 h1' rfl)
  | false => exact iteF (h2 _ _ _ _ _ _ _ _ S1 h1')
def mtNot (f : MT) : MT := fun env => (f env).bind fun p => .ok (p.1, !p.2)
theorem sndt_not {t : TT} {f : MT} (h1 : SndT K C E t f) : SndT K C E (tNot t) (mtNot f) := by
  intro mu G0 H0 env σ G H Q S hh
  refine h1 _ _ _ _ _ _ _ _ S (hh.bind fun p x G1 H1 S1 s1 r1 h1' => ?_)
  obtain ⟨e, b⟩ := p
  obtain rfl : x = b := r1
  exact post_here S1 h1' rfl
/-- and, or as values -/
def mAndV (f g : M) : M := fun env => (f env).bind fun p => match p.2 with
  | .bool true => g p.1
  | .bool false => .ok (p.1, .bool false)
  | _ => .stuck
theorem snd_andV {ta tb : TE} {f g : M} (h1 : Snd K C E ta f) (h2 : Snd K C E tb g) : Snd K C E (tAndV ta tb) (mAndV f g) := by
  intro mu G0 H0 env σ G H Q S hh
  refine h1 _ _ _ _ _ _ _ _ S (hh.bind fun p x G1 H1 S1 s1 r1 h1' => ?_)
  obtain ⟨e, d⟩ := p
  cases r1 with
  | bl b =>
    refine ⟨b, rfl, ?_⟩
    cases b with
    | true => exact iteT (h2 _ _ _ _ _ _ _ _ S1 h1')
    | false => exact iteF (post_here S1 h1' (.bl _))
  | _ => exact h1'.elim
def mIf (c : MT) (f g : M) : M := fun env => (c env).bind fun p => bif p.2 then f p.1 else g p.1
theorem snd_if {t : TT} {ta tb : TE} {c : MT} {f g : M} (h0 : SndT K C E t c) (h1 : Snd K C E ta f) (h2 : Snd K C E tb g) : Snd K C E (tIf t ta tb) (mIf c f g) := by
  intro mu G0 H0 env σ G H Q S hh
  refine h0 _ _ _ _ _ _ _ _ S (hh.bind fun p x G1 H1 S1 s1 r1 h1' => ?_)
  obtain ⟨e, b⟩ := p
  obtain rfl : x = b := r1
  cases x with
  | true => exact iteT (h1 _ _ _ _ _ _ _ _ S1 h1')
  | false => exact iteF (h2 _ _ _ _ _ _ _ _ S1 h1')

/-! ### items, lengths -/
def ixD (i : Int) (ds : List PyData) : R PyData := match i with
  | .ofNat n => match nth ds n with | some d => .ok d | none => .stuck
  | .negSucc n => bif Nat.blt n ds.length then (match nth ds (ds.length - (n + 1)) with | some d => .ok d | none => .stuck) else .stuck
theorem ixD_at {i : Int} {vs : List V} {ds : List PyData} (h : RpA K G vs ds) {d : PyData} (e : ixD i ds = .ok d) : ∃ v, atI vs i = some v ∧ Rp K G v d := by
  have hl := h.length
  cases i with
  | ofNat n =>
    unfold ixD at e
    dsimp only at e
    rw [nth_eq] at e
    cases q : ds[n]? with
    | none => rw [q] at e; cases e
    | some d' =>
      rw [q] at e
      cases e
      obtain ⟨v, h1, h2⟩ := h.get q
      have hlt : n < vs.length := (List.getElem?_eq_some_iff.mp h1).1
      refine ⟨v, ?_, h2⟩
      show (ixN vs.length (n : Int)).bind _ = _
      unfold ixN
      rw [if_pos (Int.natCast_nonneg n), if_pos (by omega)]
      exact h1
  | negSucc n =>
    unfold ixD at e
    dsimp only at e
    cases c : Nat.blt n ds.length with
    | false => rw [c] at e; cases e
    | true =>
      rw [c] at e
      have c' := Nat.le_of_ble_eq_true c
      have e : (match nth ds (ds.length - (n + 1)) with | some d => R.ok d | none => R.stuck) = R.ok d := e
      rw [nth_eq] at e
      cases q : ds[ds.length - (n + 1)]? with
      | none => rw [q] at e; cases e
      | some d' =>
        rw [q] at e
        cases e
        obtain ⟨v, h1, h2⟩ := h.get q
        refine ⟨v, ?_, h2⟩
        show (ixN vs.length (Int.negSucc n)).bind _ = _
        unfold ixN
        rw [if_neg (by omega), if_pos (by omega), show (Int.negSucc n + (vs.length : Int)).toNat = ds.length - (n + 1) from by omega]
        exact h1
def iIx : PyData → PyData → R PyData
  | .list ds, .int i => ixD i ds
  | .tuple ds, .int i => ixD i ds
  | _, _ => .stuck
theorem ops_ix : OpS K C E (rIx K) iIx := by
  intro mu G0 H0 env σ G H x y dx dy Q S rx ry h
  cases rx with
  | lst a b =>
    cases ry with
    | int i =>
      rename_i xs ds
      have h : Post (RlE K) K C E mu G0 H0 σ G (lif env (ixD i ds)) Q := h
      cases e : ixD i ds with
      | ok d =>
        rw [e] at h
        obtain ⟨v, h1, h2⟩ := ixD_at b e
        exact .inl ⟨_, _, _, v, rfl, rfl, SqL.of (S.sub _ _ a), h1, post_here S h h2⟩
      | rai c =>
        exfalso
        unfold ixD at e
        split at e
        · split at e <;> cases e
        · cases hb : Nat.blt _ ds.length <;> rw [hb] at e
          · cases e
          · simp only [cond_true] at e
            split at e <;> cases e
      | stuck => rw [e] at h; exact h.elim
    | _ => exact h.elim
  | tup a b =>
    cases ry with
    | int i =>
      rename_i xs ds
      have h : Post (RlE K) K C E mu G0 H0 σ G (lif env (ixD i ds)) Q := h
      cases e : ixD i ds with
      | ok d =>
        rw [e] at h
        obtain ⟨v, h1, h2⟩ := ixD_at b e
        exact .inr (.inl ⟨_, _, _, v, rfl, rfl, sqt_same S.sub a, h1, post_here S h h2⟩)
      | rai c =>
        exfalso
        unfold ixD at e
        split at e
        · split at e <;> cases e
        · cases hb : Nat.blt _ ds.length <;> rw [hb] at e
          · cases e
          · simp only [cond_true] at e
            split at e <;> cases e
      | stuck => rw [e] at h; exact h.elim
    | _ => exact h.elim
  | _ => exact h.elim
/-! ### calls of built-ins -/
def mCa (op : List PyData → R PyData) (g : MA) : M := fun env => (g env).bind fun q => lif q.1 (op q.2)
theorem snd_cb {r : List V → Hp → VK → Prop} {op : List PyData → R PyData} {ta : TA} {g : MA} (hr : CaS K C E r op) (ha : SndA K C E ta g) : Snd K C E (tCB r ta) (mCa op g) := by
  intro mu G0 H0 env σ G H Q S h
  refine ha _ _ _ _ _ _ _ _ S (h.bind fun p xs G1 H1 S1 s1 r1 h1 => ?_)
  exact hr _ _ _ _ _ _ _ _ _ _ S1 r1 h1
def cLen : List PyData → R PyData
  | [.list ds] => .ok (.int (ds.length : Nat))
  | [.tuple ds] => .ok (.int (ds.length : Nat))
  | _ => .stuck
theorem cas_len : CaS K C E (fun xs H Q => ∃ p ys, xs = [.ref p] ∧ (SqL K H p ys ∨ SqT K H p ys) ∧ Q (.int ys.length) H) cLen := by
  intro mu G0 H0 env σ G H xs ds Q S r h
  cases r with
  | nil => exact h.elim
  | cons r1 r2 =>
    cases r2 with
    | cons _ _ => cases r1 <;> exact h.elim
    | nil =>
      cases r1 with
      | lst a b => exact ⟨_, _, rfl, .inl (SqL.of (S.sub _ _ a)), post_here S h (by rw [b.length]; exact .int _)⟩
      | tup a b => exact ⟨_, _, rfl, .inr (sqt_same S.sub a), post_here S h (by rw [b.length]; exact .int _)⟩
      | _ => exact h.elim
def cAbs : List PyData → R PyData
  | [.int i] => .ok (.int (if i < 0 then -i else i))
  | _ => .stuck
theorem cas_abs : CaS K C E (fun xs H Q => ∃ i, xs = [.int i] ∧ Q (.int (if i < 0 then -i else i)) H) cAbs := by
  intro mu G0 H0 env σ G H xs ds Q S r h
  cases r with
  | nil => exact h.elim
  | cons r1 r2 =>
    cases r2 with
    | cons _ _ => cases r1 <;> exact h.elim
    | nil => cases r1 <;> first | exact h.elim | exact ⟨_, rfl, post_here S h (.int _)⟩
def cInt : List PyData → R PyData
  | [.int i] => .ok (.int i)
  | [.bool b] => .ok (.int (if b then 1 else 0))
  | _ => .stuck
theorem cas_int : CaS K C E (fun xs H Q => (∃ i, xs = [.int i] ∧ Q (.int i) H) ∨ ∃ k, xs = [.bl k] ∧ Q (.int (if k then 1 else 0)) H) cInt := by
  intro mu G0 H0 env σ G H xs ds Q S r h
  cases r with
  | nil => exact h.elim
  | cons r1 r2 =>
    cases r2 with
    | cons _ _ => cases r1 <;> exact h.elim
    | nil => cases r1 <;> first | exact h.elim | exact .inl ⟨_, rfl, post_here S h (.int _)⟩ | exact .inr ⟨_, rfl, post_here S h (.int _)⟩
def cGcd : List PyData → R PyData
  | [.int a, .int b] => .ok (.int ((Nat.gcd a.natAbs b.natAbs : Nat) : Int))
  | _ => .stuck
theorem cas_gcd : CaS K C E rGcd cGcd := by
  intro mu G0 H0 env σ G H xs ds Q S r h
  cases r with
  | nil => exact h.elim
  | cons r1 r2 =>
    cases r2 with
    | nil => cases r1 <;> exact h.elim
    | cons r2 r3 =>
      cases r3 with
      | cons _ _ => cases r1 <;> cases r2 <;> exact h.elim
      | nil => cases r1 <;> cases r2 <;> first | exact h.elim | exact ⟨_, _, rfl, post_here S h (.int _)⟩
end
end LW

namespace LW
open PySem PySem.Spec PyProof.Rows L2
section
variable {K : PySem.W.Frag} {mu : Mu} {G0 H0 G H G' H' : Hp} {env env' : LEnv} {σ σ' : L2.St} {C : Cl} {E : XK} {α β γ δ : Type}
/-! ### slots -/
theorem StR.of (S : StR K C mu G0 H0 env σ G H) (hl : env'.length = σ'.length)
    (h : ∀ (i : Nat) s, env'[i]? = some (some s) → (env[i]? = some (some s) ∧ σ'[i]? = σ[i]?) ∨ (∃ d v, s = .sh d ∧ σ'[i]? = some (some v) ∧ Rp K G v d)) : StR K C mu G0 H0 env' σ' G H where
  sub := S.sub
  ng := S.ng
  g0 := S.g0
  fz := S.fz
  new := S.new
  mh := S.mh
  len := hl
  sh := fun i d e => by
    rcases h i _ e with ⟨e1, e2⟩ | ⟨d', v, e1, e2, e3⟩
    · rw [e2]; exact S.sh i d e1
    · cases e1; exact ⟨v, e2, e3⟩
  ol := fun i m ds e => by
    rcases h i _ e with ⟨e1, e2⟩ | ⟨d', v, e1, e2, e3⟩
    · rw [e2]; exact S.ol i m ds e1
    · cases e1
  ow := fun i j p ⟨m1, d1, o1⟩ ⟨m2, d2, o2⟩ a b => by
    rcases h i _ o1 with ⟨e1, e2⟩ | ⟨d', v, e1, e2, e3⟩
    · rcases h j _ o2 with ⟨f1, f2⟩ | ⟨d', v, f1, f2, f3⟩
      · rw [e2] at a; rw [f2] at b
        exact S.ow i j p ⟨m1, d1, e1⟩ ⟨m2, d2, f1⟩ a b
      · cases f1
    · cases e1
theorem get_set {α : Type} {l : List α} {i j : Nat} {x : α} : (l.set i x)[j]? = if i = j then (if i < l.length then some x else none) else l[j]? := by
  by_cases h : i = j
  · subst h
    rw [if_pos rfl]
    by_cases hl : i < l.length
    · rw [if_pos hl, List.getElem?_set_self hl]
    · rw [if_neg hl, List.getElem?_eq_none (by rw [List.length_set]; omega)]
  · rw [if_neg h, List.getElem?_set_ne h]
theorem StR.set_sh (S : StR K C mu G0 H0 env σ G H) (i : Nat) {v : V} {d : PyData} (r : Rp K G v d) : StR K C mu G0 H0 (env.set i (some (.sh d))) (σ.set i (some v)) G H := by
  refine S.of (by rw [List.length_set, List.length_set]; exact S.len) fun j s e => ?_
  rw [get_set] at e
  by_cases h : i = j
  · subst h
    rw [if_pos rfl] at e
    by_cases hl : i < env.length
    · rw [if_pos hl] at e
      cases e
      exact .inr ⟨d, v, rfl, by rw [get_set, if_pos rfl, if_pos (by rw [← S.len]; exact hl)], r⟩
    · rw [if_neg hl] at e; cases e
  · rw [if_neg h] at e
    exact .inl ⟨e, by rw [get_set, if_neg h]⟩
theorem StR.drop_at (S : StR K C mu G0 H0 env σ G H) (i : Nat) (x : Option V) : StR K C mu G0 H0 (env.set i none) (σ.set i x) G H := by
  refine S.of (by rw [List.length_set, List.length_set]; exact S.len) fun j s e => ?_
  rw [get_set] at e
  by_cases h : i = j
  · subst h
    rw [if_pos rfl] at e
    split at e <;> cases e
  · rw [if_neg h] at e
    exact .inl ⟨e, by rw [get_set, if_neg h]⟩
/-- less known -/
theorem StR.forget (S : StR K C mu G0 H0 env σ G H) (i : Nat) : StR K C mu G0 H0 (env.set i none) σ G H := by
  refine S.of (by rw [List.length_set]; exact S.len) fun j s e => ?_
  rw [get_set] at e
  by_cases h : i = j
  · subst h
    rw [if_pos rfl] at e
    split at e <;> cases e
  · rw [if_neg h] at e
    exact .inl ⟨e, rfl⟩
def wipeE : LEnv → List Nat → LEnv
  | e, [] => e
  | e, v :: vs => (wipeE e vs).set v none
theorem StR.wipe (S : StR K C mu G0 H0 env σ G H) : ∀ vs : List Nat, StR K C mu G0 H0 (wipeE env vs) (L2.wipe σ vs) G H
  | [] => S
  | v :: vs => (StR.wipe S vs).drop_at v none
theorem wipe_get (σ : L2.St) (vs : List Nat) (j : Nat) : (L2.wipe σ vs)[j]? = if j ∈ vs then (if j < σ.length then some none else none) else σ[j]? := by
  induction vs with
  | nil => simp [L2.wipe]
  | cons v vs ih =>
    unfold L2.wipe
    rw [get_set, ih, wipe_length]
    by_cases h : v = j
    · subst h; simp
    · have h' : ¬ j = v := fun q => h q.symm
      simp only [List.mem_cons, h, h', if_false, false_or]
theorem wipe_same {σ σ' : L2.St} {vs : List Nat} (hl : σ'.length = σ.length) (h : ∀ (j : Nat), j ∉ vs → σ'[j]? = σ[j]?) : L2.wipe σ' vs = L2.wipe σ vs := by
  apply List.ext_getElem?
  intro j
  rw [wipe_get, wipe_get, hl]
  by_cases hj : j ∈ vs
  · rw [if_pos hj, if_pos hj]
  · rw [if_neg hj, if_neg hj]; exact h j hj

/-! ### statements -/
def PostS (K : PySem.W.Frag) (C : Cl) (E : XK) (mu : Mu) (G0 H0 : Hp) (G : Hp) : RS → Ends → Prop
  | .nx e, D => ∀ σ' G' H', StR K C mu G0 H0 e σ' G' H' → Same G G' → D.nx σ' H'
  | .ct e, D => ∀ σ' G' H', StR K C mu G0 H0 e σ' G' H' → Same G G' → D.ct σ' H'
  | .bk e, D => ∀ σ' G' H', StR K C mu G0 H0 e σ' G' H' → Same G G' → D.bk σ' H'
  | .rt e d, D => ∀ v σ' G' H', StR K C mu G0 H0 e σ' G' H' → Same G G' → Rp K G' v d → D.rt v H'
  | .rai c, _ => ∀ H', Fz C.T mu.ch H0 H' → E (C.cl c) none H'
  | .stuck, _ => False
theorem PostS.mono {r : RS} {D : Ends} (s : Same G G') (h : PostS K C E mu G0 H0 G r D) : PostS K C E mu G0 H0 G' r D := by
  cases r with
  | nx e => exact fun σ' G2 H2 S s2 => h σ' G2 H2 S (s.trans s2)
  | ct e => exact fun σ' G2 H2 S s2 => h σ' G2 H2 S (s.trans s2)
  | bk e => exact fun σ' G2 H2 S s2 => h σ' G2 H2 S (s.trans s2)
  | rt e d => exact fun v σ' G2 H2 S s2 r => h v σ' G2 H2 S (s.trans s2) r
  | rai c => exact h
  | stuck => exact h
def SndS (K : PySem.W.Frag) (C : Cl) (E : XK) (ts : TS) (ms : MS) : Prop := ∀ mu G0 H0 env σ G H D, StR K C mu G0 H0 env σ G H → PostS K C E mu G0 H0 G (ms env) D → ts D σ H
def bindS {α : Type} (r : RE α) (f : LEnv × α → RS) : RS := match r with
  | .ok p => f p
  | .rai c => .rai c
  | .stuck => .stuck
theorem PostS.bind {Rl : Hp → β → α → Prop} {r : RE α} {f : LEnv × α → RS} {D : Ends} {Q1 : β → Hp → Prop} (h : PostS K C E mu G0 H0 G (bindS r f) D)
    (k : ∀ p v G' H', StR K C mu G0 H0 p.1 σ G' H' → Same G G' → Rl G' v p.2 → PostS K C E mu G0 H0 G' (f p) D → Q1 v H') : Post Rl K C E mu G0 H0 σ G r Q1 := by
  cases r with
  | ok p => exact fun v G' H' S s r => k p v G' H' S s r (PostS.mono s h)
  | rai c => exact h
  | stuck => exact h
def mNext : MS := fun env => .nx env
theorem snds_next : SndS K C E tNext mNext := fun mu G0 H0 env σ G H D S h => h σ G H S (.refl _)
def mSeq (a b : MS) : MS := fun env => match a env with
  | .nx e => b e
  | x => x
theorem snds_seq {t u : TS} {a b : MS} (h1 : SndS K C E t a) (h2 : SndS K C E u b) : SndS K C E (tSeq t u) (mSeq a b) := by
  intro mu G0 H0 env σ G H D S h
  refine h1 _ _ _ _ _ _ _ _ S ?_
  have h : PostS K C E mu G0 H0 G (match a env with | .nx e => b e | x => x) D := h
  cases e : a env with
  | nx e' =>
    rw [e] at h
    exact fun σ' G' H' S' s' => h2 _ _ _ _ _ _ _ _ S' (PostS.mono s' h)
  | ct e' => rw [e] at h; exact h
  | bk e' => rw [e] at h; exact h
  | rt e' d => rw [e] at h; exact h
  | rai c => rw [e] at h; exact h
  | stuck => rw [e] at h; exact h
def mIfS (c : MT) (a b : MS) : MS := fun env => bindS (c env) fun p => bif p.2 then a p.1 else b p.1
theorem snds_if {tc : TT} {t u : TS} {c : MT} {a b : MS} (h0 : SndT K C E tc c) (h1 : SndS K C E t a) (h2 : SndS K C E u b) : SndS K C E (tIfS tc t u) (mIfS c a b) := by
  intro mu G0 H0 env σ G H D S h
  refine h0 _ _ _ _ _ _ _ _ S (h.bind fun p x G1 H1 S1 s1 r1 h1' => ?_)
  obtain ⟨e, bb⟩ := p
  obtain rfl : x = bb := r1
  cases x with
  | true => exact iteT (h1 _ _ _ _ _ _ _ _ S1 h1')
  | false => exact iteF (h2 _ _ _ _ _ _ _ _ S1 h1')
def mRet (f : M) : MS := fun env => bindS (f env) fun p => .rt p.1 p.2
theorem snds_ret {te : TE} {f : M} (h1 : Snd K C E te f) : SndS K C E (tRet te) (mRet f) := by
  intro mu G0 H0 env σ G H D S h
  refine h1 _ _ _ _ _ _ _ _ S (h.bind fun p x G1 H1 S1 s1 r1 h1' => ?_)
  exact h1' x σ G1 H1 S1 (.refl _) r1
def mDrop (f : M) : MS := fun env => bindS (f env) fun p => .nx p.1
theorem snds_drop {te : TE} {f : M} (h1 : Snd K C E te f) : SndS K C E (tDrop te) (mDrop f) := by
  intro mu G0 H0 env σ G H D S h
  refine h1 _ _ _ _ _ _ _ _ S (h.bind fun p x G1 H1 S1 s1 r1 h1' => ?_)
  exact h1' σ G1 H1 S1 (.refl _)
def mRai (c : Nat) : MS := fun _ => .rai c
theorem snds_rai {c : Nat} {cv : Value} (hc : C.cl c = cv) : SndS K C E (fun _ σ H => (fun _ H Q => Q cv none H : L2.St → Hp → XK → Prop) σ H fun cls d H' => E cls d H') (mRai c) := by
  subst hc
  exact fun mu G0 H0 env σ G H D S h => h H S.fz
def mBreak : MS := fun env => .bk env
theorem snds_break : SndS K C E tBreak mBreak := fun mu G0 H0 env σ G H D S h => h σ G H S (.refl _)
def mCont : MS := fun env => .ct env
theorem snds_cont : SndS K C E tCont mCont := fun mu G0 H0 env σ G H D S h => h σ G H S (.refl _)

/-! ### targets -/
abbrev Bi := PyData → LEnv → R LEnv
def PostG (K : PySem.W.Frag) (C : Cl) (mu : Mu) (G0 H0 : Hp) (σ : L2.St) (G H : Hp) (is : List Nat) : R LEnv → (L2.St → Hp → Prop) → Prop
  | .ok e, Q => ∀ σ', StR K C mu G0 H0 e σ' G H → σ'.length = σ.length → (∀ (j : Nat), j ∉ is → σ'[j]? = σ[j]?) → Q σ' H
  | _, _ => False
def SndG (K : PySem.W.Frag) (C : Cl) (g : TG) (b : Bi) (is : List Nat) : Prop := ∀ mu G0 H0 env σ G H v d Q, StR K C mu G0 H0 env σ G H → Rp K G v d → PostG K C mu G0 H0 σ G H is (b d env) Q → g v σ H Q
def bName (i : Nat) : Bi := fun d env => .ok (env.set i (some (.sh d)))
theorem sndg_name {i : Nat} : SndG K C (gName i) (bName i) [i] := by
  intro mu G0 H0 env σ G H v d Q S r h
  exact h _ (S.set_sh i r) (List.length_set ..) fun j hj => by rw [List.getElem?_set_ne]; intro q; exact hj (by rw [q]; exact List.mem_singleton.mpr rfl)
abbrev BiA := List PyData → LEnv → R LEnv
def SndGs (K : PySem.W.Frag) (C : Cl) (g : TGs) (b : BiA) (is : List Nat) : Prop := ∀ mu G0 H0 env σ G H vs ds Q, StR K C mu G0 H0 env σ G H → RpA K G vs ds → PostG K C mu G0 H0 σ G H is (b ds env) Q → g vs σ H Q
def bNil : BiA := fun ds env => match ds with
  | [] => .ok env
  | _ => .stuck
def bCons (b : Bi) (r : BiA) : BiA := fun ds env => match ds with
  | d :: ds => (b d env).bind fun e => r ds e
  | [] => .stuck
theorem sndgs_nil : SndGs K C gNil bNil [] := by
  intro mu G0 H0 env σ G H vs ds Q S r h
  cases r with
  | nil => exact ⟨rfl, h σ S rfl fun _ _ => rfl⟩
  | cons _ _ => exact h.elim
theorem sndgs_cons {g : TG} {gs : TGs} {b : Bi} {bs : BiA} {is js : List Nat} (h1 : SndG K C g b is) (h2 : SndGs K C gs bs js) : SndGs K C (gCons g gs) (bCons b bs) (is ++ js) := by
  intro mu G0 H0 env σ G H vs ds Q S r h
  cases r with
  | nil => exact h.elim
  | @cons v vs d ds r1 r2 =>
    refine ⟨v, vs, rfl, h1 _ _ _ _ _ _ _ _ _ _ S r1 ?_⟩
    have h : PostG K C mu G0 H0 σ G H (is ++ js) ((b d env).bind fun e => bs ds e) Q := h
    cases e : b d env with
    | ok e1 =>
      rw [e] at h
      intro σ1 S1 l1 k1
      refine h2 _ _ _ _ _ _ _ _ _ _ S1 r2 ?_
      have h : PostG K C mu G0 H0 σ G H (is ++ js) (bs ds e1) Q := h
      cases e2 : bs ds e1 with
      | ok e3 =>
        rw [e2] at h
        exact fun σ2 S2 l2 k2 => h σ2 S2 (l2.trans l1) fun j hj => by
          rw [List.mem_append, not_or] at hj
          rw [k2 j hj.2, k1 j hj.1]
      | rai c => rw [e2] at h; exact h
      | stuck => rw [e2] at h; exact h
    | rai c => rw [e] at h; exact h
    | stuck => rw [e] at h; exact h
def bTup (n : Nat) (bs : BiA) : Bi := fun d env => match d with
  | .tuple ds => gd (Nat.beq ds.length n) (bs ds env)
  | _ => .stuck
theorem sndg_tup {n : Nat} {gs : TGs} {bs : BiA} {is : List Nat} (h : SndGs K C gs bs is) : SndG K C (gTup K n gs) (bTup n bs) is := by
  intro mu G0 H0 env σ G H v d Q S r hh
  cases r with
  | tup a b =>
    rename_i xs ds
    have hh : PostG K C mu G0 H0 σ G H is (gd (Nat.beq ds.length n) (bs ds env)) Q := hh
    cases c : Nat.beq ds.length n with
    | true =>
      rw [c] at hh
      exact ⟨_, _, rfl, sqt_same S.sub a, by rw [b.length]; exact Nat.eq_of_beq_eq_true c, h _ _ _ _ _ _ _ _ _ _ S b hh⟩
    | false => rw [c] at hh; exact hh.elim
  | _ => exact hh.elim
def mAsg (b : Bi) (f : M) : MS := fun env => bindS (f env) fun p => match b p.2 p.1 with
  | .ok e => .nx e
  | _ => .stuck
theorem snds_asg {te : TE} {g : TG} {f : M} {b : Bi} {is : List Nat} (h1 : Snd K C E te f) (h2 : SndG K C g b is) : SndS K C E (tAsg te g) (mAsg b f) := by
  intro mu G0 H0 env σ G H D S h
  refine h1 _ _ _ _ _ _ _ _ S (h.bind fun p x G1 H1 S1 s1 r1 h1' => ?_)
  refine h2 _ _ _ _ _ _ _ _ _ _ S1 r1 ?_
  have h1' : PostS K C E mu G0 H0 G1 (match b p.2 p.1 with | .ok e => .nx e | _ => .stuck) D := h1'
  cases e : b p.2 p.1 with
  | ok e1 => rw [e] at h1'; exact fun σ' S' _ _ => h1' σ' G1 H1 S' (.refl _)
  | rai c => rw [e] at h1'; exact h1'
  | stuck => rw [e] at h1'; exact h1'
def mPar (i j : Nat) (g : MA) : MS := fun env => bindS (g env) fun p => match p.2 with
  | [a, b] => .nx ((p.1.set i (some (.sh a))).set j (some (.sh b)))
  | _ => .stuck
theorem snds_par {i j : Nat} {ta : TA} {g : MA} (h1 : SndA K C E ta g) : SndS K C E (tPar i j ta) (mPar i j g) := by
  intro mu G0 H0 env σ G H D S h
  refine h1 _ _ _ _ _ _ _ _ S (h.bind fun p x G1 H1 S1 s1 r1 h1' => ?_)
  obtain ⟨e, ds⟩ := p
  cases r1 with
  | nil => exact h1'.elim
  | cons ra r2 =>
    cases r2 with
    | nil => exact h1'.elim
    | cons rb r3 =>
      cases r3 with
      | nil => exact ⟨_, _, rfl, h1' _ G1 H1 ((S1.set_sh i ra).set_sh j rb) (.refl _)⟩
      | cons _ _ => exact h1'.elim

/-! ### what is walked -/
structure ItOk (K : PySem.W.Frag) (J : It) (G : Hp) (ds : List PyData) : Prop where
  ex : ∃ vs : List V, RpA K G vs ds ∧ (∀ i H, Same G H → i < vs.length → J.go i H) ∧ (∀ i H, Same G H → vs.length ≤ i → J.stop i H) ∧ ∀ i H x H', Same G H → J.yld i H x H' → i < vs.length → H' = H ∧ vs[i]? = some x
abbrev RlI (K : PySem.W.Frag) : Hp → It → List PyData → Prop := fun G J ds => ItOk K J G ds
def SndI (K : PySem.W.Frag) (C : Cl) (E : XK) (wi : TI) (mi : MA) : Prop := ∀ mu G0 H0 env σ G H R, StR K C mu G0 H0 env σ G H → Post (RlI K) K C E mu G0 H0 σ G (mi env) R → wi σ H R
def seqOf : PyData → R (List PyData)
  | .list ds => .ok ds
  | .tuple ds => .ok ds
  | _ => .stuck
def miSeq (f : M) : MA := fun env => (f env).bind fun p => lif p.1 (seqOf p.2)
def iSeq (K : PySem.W.Frag) (te : TE) : TI := fun σ H R => iList K te σ H R ∨ iTup K te σ H R
theorem pi_seq {X : Cx} {tg l : Expr} {tl : TE} (hl : PE X l tl) : PI X tg l (iSeq X.K tl) := ⟨fun pins s σ H R I h => by
  rcases h with h | h
  · exact (pi_list hl).run pins s σ H R I h
  · exact (pi_tup hl).run pins s σ H R I h⟩
theorem itok_list {a : Addr} {xs : List V} {ds : List PyData} (h : G a = some (.lst xs)) (r : RpA K G xs ds) : ItOk K (Itl K a) G ds :=
  ⟨xs, r, fun i H s hi => ⟨xs, xs[i], SqL.of (s _ _ h), List.getElem?_eq_getElem hi⟩, fun i H s hi => ⟨xs, SqL.of (s _ _ h), hi⟩, fun i H x H' s y _ => ⟨y.1, y.2 xs (SqL.of (s _ _ h))⟩⟩
theorem itok_tup {a : Addr} {xs : List V} {ds : List PyData} (h : SqT K G a xs) (r : RpA K G xs ds) : ItOk K (Itt K a) G ds :=
  ⟨xs, r, fun i H s hi => ⟨xs, xs[i], sqt_same s h, List.getElem?_eq_getElem hi⟩, fun i H s hi => ⟨xs, sqt_same s h, hi⟩, fun i H x H' s y _ => ⟨y.1, y.2 xs (sqt_same s h)⟩⟩
theorem sndi_seq {te : TE} {f : M} (h : Snd K C E te f) : SndI K C E (iSeq K te) (miSeq f) := by
  intro mu G0 H0 env σ G H R S hh
  have go : ∀ e d, f env = .ok (e, d) → Post (RlI K) K C E mu G0 H0 σ G (lif e (seqOf d)) R → iSeq K te σ H R := by
    intro e d ef h1
    cases d with
    | list ds =>
      refine .inl (h _ _ _ _ _ _ _ _ S ?_)
      rw [ef]
      intro v G' H' S' s' r
      cases r with
      | lst a b => exact ⟨_, rfl, ⟨_, SqL.of (S'.sub _ _ a)⟩, h1 _ G' H' S' s' (itok_list a b)⟩
    | tuple ds =>
      refine .inr (h _ _ _ _ _ _ _ _ S ?_)
      rw [ef]
      intro v G' H' S' s' r
      cases r with
      | tup a b => exact ⟨_, rfl, ⟨_, sqt_same S'.sub a⟩, h1 _ G' H' S' s' (itok_tup a b)⟩
    | _ => exact h1.elim
  have hh : Post (RlI K) K C E mu G0 H0 σ G ((f env).bind fun p => lif p.1 (seqOf p.2)) R := hh
  cases e : f env with
  | ok p => rw [e] at hh; exact go p.1 p.2 e hh
  | rai c => 
    refine .inl (h _ _ _ _ _ _ _ _ S ?_)
    rw [e] at hh ⊢
    exact hh
  | stuck => rw [e] at hh; exact hh.elim
/-- lo, lo + 1, .. -/
def upFrom : Int → Nat → List PyData
  | _, 0 => []
  | lo, n + 1 => .int lo :: upFrom (lo + 1) n
theorem upFrom_length : ∀ (lo : Int) (n : Nat), (upFrom lo n).length = n
  | _, 0 => rfl
  | lo, n + 1 => by simp [upFrom, upFrom_length (lo + 1) n]
def upV : Int → Nat → List V
  | _, 0 => []
  | lo, n + 1 => .int lo :: upV (lo + 1) n
theorem upV_length : ∀ (lo : Int) (n : Nat), (upV lo n).length = n
  | _, 0 => rfl
  | lo, n + 1 => by simp [upV, upV_length (lo + 1) n]
theorem upV_get : ∀ (lo : Int) (n i : Nat), i < n → (upV lo n)[i]? = some (V.int (lo + i))
  | lo, n + 1, 0, _ => by simp [upV]
  | lo, n + 1, i + 1, h => by
    have := upV_get (lo + 1) n i (by omega)
    show (upV (lo + 1) n)[i]? = _
    rw [this]
    congr 2
    omega
theorem rpa_up : ∀ (lo : Int) (n : Nat), RpA K G (upV lo n) (upFrom lo n)
  | _, 0 => .nil
  | lo, n + 1 => .cons (.int _) (rpa_up (lo + 1) n)
theorem itok_range {lo : Int} {n : Nat} : ItOk K (Itr lo n) G (upFrom lo n) :=
  ⟨upV lo n, rpa_up lo n, fun i H _ hi => by rw [upV_length] at hi; exact hi, fun i H _ hi => by rw [upV_length] at hi; exact hi, fun i H x H' _ y hi => ⟨y.1, by rw [upV_length] at hi; rw [upV_get lo n i hi, y.2]⟩⟩
/-- within a million either way -/
def near (i : Int) : Bool := Nat.ble i.natAbs small
theorem near_is {i : Int} (h : near i = true) : -(1000000 : Int) ≤ i ∧ i ≤ 1000000 := by
  have := Nat.le_of_ble_eq_true h
  unfold small at this
  omega
def rg1 : List PyData → R (List PyData)
  | [.int j] => gd (near j) (.ok (upFrom 0 j.toNat))
  | _ => .stuck
def rg2 : List PyData → R (List PyData)
  | [.int i, .int j] => gd (near i && near j) (.ok (upFrom i (j - i).toNat))
  | _ => .stuck
def miR (rg : List PyData → R (List PyData)) (g : MA) : MA := fun env => (g env).bind fun p => lif p.1 (rg p.2)
theorem sndi_rg1 {ta : TA} {g : MA} (h : SndA K C E ta g) : SndI K C E (iRng1 ta) (miR rg1 g) := by
  intro mu G0 H0 env σ G H R S hh
  refine h _ _ _ _ _ _ _ _ S (hh.bind fun p xs G1 H1 S1 s1 r1 h1 => ?_)
  obtain ⟨e, ds⟩ := p
  cases r1 with
  | nil => exact h1.elim
  | cons ra r2 =>
    cases r2 with
    | cons _ _ => cases ra <;> exact h1.elim
    | nil =>
      cases ra with
      | int j =>
        obtain ⟨c, h1⟩ := Post.gdL h1
        have := near_is c
        exact ⟨j, rfl, by omega, by omega, post_here S1 h1 itok_range⟩
      | _ => exact h1.elim
theorem sndi_rg2 {ta : TA} {g : MA} (h : SndA K C E ta g) : SndI K C E (iRng2 ta) (miR rg2 g) := by
  intro mu G0 H0 env σ G H R S hh
  refine h _ _ _ _ _ _ _ _ S (hh.bind fun p xs G1 H1 S1 s1 r1 h1 => ?_)
  obtain ⟨e, ds⟩ := p
  cases r1 with
  | nil => exact h1.elim
  | cons ra r2 =>
    cases r2 with
    | nil => cases ra <;> exact h1.elim
    | cons rb r3 =>
      cases r3 with
      | cons _ _ => cases ra <;> cases rb <;> exact h1.elim
      | nil =>
        cases ra with
        | int i =>
          cases rb with
          | int j =>
            obtain ⟨c, h1⟩ := Post.gdL h1
            rw [Bool.and_eq_true] at c
            have := near_is c.1
            have := near_is c.2
            exact ⟨i, j, rfl, ⟨by omega, by omega, by omega, by omega⟩, post_here S1 h1 itok_range⟩
          | _ => exact h1.elim
        | _ => cases rb <;> exact h1.elim

/-! ### loops -/
def forL (b : Bi) (body : MS) : List PyData → LEnv → RS
  | [], e => .nx e
  | d :: r, e => match b d e with
    | .ok e1 => match body e1 with
      | .nx e2 => forL b body r e2
      | .ct e2 => forL b body r e2
      | .bk e2 => .nx e2
      | .rt e2 d2 => .rt e2 d2
      | .rai c => .rai c
      | .stuck => .stuck
    | _ => .stuck
def mFor (mi : MA) (b : Bi) (body : MS) : MS := fun env => bindS (mi env) fun p => forL b body p.2 p.1
theorem snds_for {wi : TI} {g : TG} {tb : TS} {mi : MA} {b : Bi} {is : List Nat} {body : MS} (hi : SndI K C E wi mi) (hg : SndG K C g b is) (hb : SndS K C E tb body) : SndS K C E (tFor wi g tb) (mFor mi b body) := by
  intro mu G0 H0 env σ G H D S h
  refine hi _ _ _ _ _ _ _ _ S (h.bind fun p J G1 H1 S1 s1 r1 h1 => ?_)
  obtain ⟨e, ds⟩ := p
  obtain ⟨vs, rv, hgo, hst, hy⟩ := r1.ex
  have hl : vs.length = ds.length := rv.length
  refine ⟨fun i m σ H => m = vs.length - i ∧ i ≤ vs.length ∧ ∃ e G, StR K C mu G0 H0 e σ G H ∧ Same G1 G ∧ PostS K C E mu G0 H0 G (forL b body (ds.drop i) e) D, ⟨_, rfl, Nat.zero_le _, e, G1, S1, .refl _, h1⟩, ?_⟩
  rintro i m σ2 H2 ⟨rfl, hle, e2, G2, S2, s2, p2⟩
  by_cases hlt : i < vs.length
  · refine .inr ⟨hgo i H2 (s2.trans S2.sub) hlt, fun σ' H' => i + 1 ≤ vs.length ∧ ∃ e G, StR K C mu G0 H0 e σ' G H' ∧ Same G1 G ∧ PostS K C E mu G0 H0 G (forL b body (ds.drop (i + 1)) e) D, fun σ' H' n => ⟨vs.length - (i + 1), by omega, rfl, n.1, n.2⟩, fun x H' y => ?_⟩
    obtain ⟨rfl, hx⟩ := hy i H2 x H' (s2.trans S2.sub) y hlt
    obtain ⟨d, hd, rd⟩ := rv.getV hx
    have ed : ds.drop i = d :: ds.drop (i + 1) := by
      obtain ⟨hlt', e'⟩ := List.getElem?_eq_some_iff.mp hd
      rw [List.drop_eq_getElem_cons hlt', e']
    rw [ed] at p2
    refine hg _ _ _ _ _ _ _ _ _ _ S2 (Rp.mono s2 _ _ rd) ?_
    have p2 : PostS K C E mu G0 H0 G2 (match b d e2 with
      | .ok e1 => match body e1 with
        | .nx e2 => forL b body (ds.drop (i + 1)) e2
        | .ct e2 => forL b body (ds.drop (i + 1)) e2
        | .bk e2 => .nx e2
        | .rt e2 d2 => .rt e2 d2
        | .rai c => .rai c
        | .stuck => .stuck
      | _ => .stuck) D := p2
    cases eb : b d e2 with
    | ok e3 =>
      rw [eb] at p2
      intro σ3 S3 _ _
      refine hb _ _ _ _ _ _ _ _ S3 ?_
      dsimp only at p2
      cases em : body e3 with
      | nx e4 => rw [em] at p2; exact fun σ4 G4 H4 S4 s4 => ⟨hlt, e4, G4, S4, s2.trans s4, PostS.mono s4 p2⟩
      | ct e4 => rw [em] at p2; exact fun σ4 G4 H4 S4 s4 => ⟨hlt, e4, G4, S4, s2.trans s4, PostS.mono s4 p2⟩
      | bk e4 => rw [em] at p2; exact p2
      | rt e4 d4 => rw [em] at p2; exact p2
      | rai c => rw [em] at p2; exact p2
      | stuck => rw [em] at p2; exact p2
    | rai c => rw [eb] at p2; exact p2
    | stuck => rw [eb] at p2; exact p2
  · refine .inl ⟨hst i H2 (s2.trans S2.sub) (by omega), ?_⟩
    rw [List.drop_eq_nil_of_le (by omega)] at p2
    exact p2 σ2 G2 H2 S2 (.refl _)
def whileL (c : MT) (body : MS) : Nat → LEnv → RS
  | 0, _ => .stuck
  | n + 1, e => bindS (c e) fun p => bif p.2 then (match body p.1 with
      | .nx e2 => whileL c body n e2
      | .ct e2 => whileL c body n e2
      | .bk e2 => .nx e2
      | .rt e2 d2 => .rt e2 d2
      | .rai c => .rai c
      | .stuck => .stuck) else .nx p.1
def mWhile (n : Nat) (c : MT) (body : MS) : MS := fun env => whileL c body n env
theorem snds_while {tc : TT} {tb : TS} {c : MT} {body : MS} {n : Nat} (hc : SndT K C E tc c) (hb : SndS K C E tb body) : SndS K C E (tWhile tc tb) (mWhile n c body) := by
  intro mu G0 H0 env σ G H D S h
  refine ⟨fun m σ H => ∃ e G, StR K C mu G0 H0 e σ G H ∧ PostS K C E mu G0 H0 G (whileL c body m e) D, ⟨n, env, G, S, h⟩, ?_⟩
  rintro m σ2 H2 ⟨e2, G2, S2, p2⟩
  cases m with
  | zero => exact p2.elim
  | succ m =>
    have p2 : PostS K C E mu G0 H0 G2 (bindS (c e2) fun p => bif p.2 then (match body p.1 with
      | .nx e2 => whileL c body m e2
      | .ct e2 => whileL c body m e2
      | .bk e2 => .nx e2
      | .rt e2 d2 => .rt e2 d2
      | .rai c => .rai c
      | .stuck => .stuck) else .nx p.1) D := p2
    refine hc _ _ _ _ _ _ _ _ S2 (p2.bind fun p x G3 H3 S3 s3 r3 p3 => ?_)
    obtain ⟨e3, bb⟩ := p
    obtain rfl : x = bb := r3
    cases x with
    | false => exact iteF (p3 σ2 G3 H3 S3 (.refl _))
    | true =>
      refine iteT ⟨fun σ' H' => ∃ e G, StR K C mu G0 H0 e σ' G H' ∧ PostS K C E mu G0 H0 G (whileL c body m e) D, fun σ' H' n => ⟨m, Nat.lt_succ_self m, n⟩, ?_⟩
      refine hb _ _ _ _ _ _ _ _ S3 ?_
      simp only [cond_true] at p3
      cases em : body e3 with
      | nx e4 => rw [em] at p3; exact fun σ4 G4 H4 S4 s4 => ⟨e4, G4, S4, PostS.mono s4 p3⟩
      | ct e4 => rw [em] at p3; exact fun σ4 G4 H4 S4 s4 => ⟨e4, G4, S4, PostS.mono s4 p3⟩
      | bk e4 => rw [em] at p3; exact p3
      | rt e4 d4 => rw [em] at p3; exact p3
      | rai c => rw [em] at p3; exact p3
      | stuck => rw [em] at p3; exact p3
end
end LW

namespace LW
open PySem PySem.Spec PyProof.Rows L2
section
variable {K : PySem.W.Frag} {mu : Mu} {G0 H0 G H G' H' : Hp} {env env' : LEnv} {σ σ' : L2.St} {C : Cl} {E : XK} {α β γ δ : Type}
/-! ### a state as another's start -/
def Mu.plus (mu : Mu) (e : LEnv) (σ : L2.St) : Mu := ⟨fun a => mu.ch a ∨ ∃ j : Nat, Own e j ∧ σ[j]? = some (some (.ref a)), mu.fl, fun a h => .inl (mu.sub a h)⟩
theorem StR.rebase (S : StR K C mu G0 H0 env σ G H) : StR K C (mu.plus env σ) G H env σ G H where
  sub := S.sub
  ng := S.ng
  g0 := .refl _
  fz := .refl S.fz.tb
  new := fun _ _ e => .inl e
  mh := fun a m => by
    rcases m with m | ⟨j, ⟨m, ds, oj⟩, hj⟩
    · exact S.mh a m
    · obtain ⟨p, vs, e1, e2, _⟩ := S.ol j m ds oj
      rw [e1] at hj; cases hj
      exact ⟨_, e2⟩
  len := S.len
  sh := S.sh
  ol := fun i m ds e => by
    obtain ⟨p, vs, h1, h2, h3, h4, h5⟩ := S.ol i m ds e
    refine ⟨p, vs, h1, h2, h3, h4, ?_⟩
    cases m with
    | true => exact h5
    | false => exact .inl (.inr ⟨i, ⟨_, _, e⟩, h1⟩)
  ow := S.ow
theorem StR.unbase {G1 H1 : Hp} (S : StR K C mu G0 H0 env σ G H) (T : StR K C (mu.plus env σ) G H env' σ' G1 H1) : StR K C mu G0 H0 env' σ' G1 H1 := by
  have own : ∀ b o, ¬ mu.ch b → nt o → H0 b = some o → ¬ (mu.plus env σ).ch b := fun b o m n e z => by
    rcases z with z | ⟨j, ⟨m', ds, oj⟩, hj⟩
    · exact m z
    · obtain ⟨p, vs, e1, e2, e3, e4, e5⟩ := S.ol j m' ds oj
      rw [e1] at hj; cases hj
      cases m' with
      | true => exact m (mu.sub _ e5)
      | false =>
        rcases e5 with e5 | e5
        · exact m e5
        · exact e5 _ n e
  exact {
    sub := T.sub
    ng := T.ng
    g0 := S.g0.trans T.g0
    fz := ⟨fun b o m n e => T.fz.k b o (own b o m n e) n (S.fz.k b o m n e), T.fz.tb⟩
    new := fun a o e => by
      rcases T.new a o e with e | e
      · exact S.new a o e
      · exact .inr ⟨S.none0 e.1, e.2⟩
    mh := fun a m => T.mh a (.inl m)
    len := T.len
    sh := T.sh
    ol := fun i m ds e => by
      obtain ⟨p, vs, h1, h2, h3, h4, h5⟩ := T.ol i m ds e
      refine ⟨p, vs, h1, h2, h3, h4, ?_⟩
      cases m with
      | true => exact h5
      | false =>
        rcases h5 with (h5 | ⟨j, ⟨m', ds', oj⟩, hj⟩) | h5
        · exact .inl h5
        · obtain ⟨p', vs', e1, e2, e3, e4, e5⟩ := S.ol j m' ds' oj
          rw [e1] at hj; cases hj
          cases m' with
          | true => exact .inl (mu.sub _ e5)
          | false => exact e5
        · exact .inr (S.none0 h5)
    ow := T.ow }
/-- an object of no slot, that may not be read, changes -/
theorem StR.upd_hid {D : Addr} {xs ys : List V} (S : StR K C mu G0 H0 env σ G H) (hD : H D = some (.lst xs)) (hG : G D = none) (h0 : Nw H0 D) (hw : ∀ j : Nat, Own env j → σ[j]? ≠ some (some (.ref D))) : StR K C mu G0 H0 env σ G (upd H D (.lst ys)) where
  sub := fun a u e => by rw [upd_ne (ne_of_none e hG)]; exact S.sub _ _ e
  ng := S.ng
  g0 := S.g0
  fz := ⟨fun b u m n e => by
      rw [upd_ne (fun z => h0 u n (by rw [← z]; exact e))]; exact S.fz.k b u m n e, tabs_but S.fz.tb fun b o e n => by
      rw [upd_ne (fun z => by subst z; rw [hD] at e; cases e; exact n _ rfl)]; exact e⟩
  new := S.new
  mh := fun a m => by
    by_cases h : a = D
    · subst h; exact ⟨_, upd_same⟩
    · obtain ⟨u, e⟩ := S.mh a m; exact ⟨u, by rw [upd_ne h]; exact e⟩
  len := S.len
  sh := S.sh
  ol := fun i m ds e => by
    obtain ⟨p, vs, h1, h2, h3⟩ := S.ol i m ds e
    have : p ≠ D := fun q => hw i ⟨m, ds, e⟩ (by rw [h1, q])
    exact ⟨p, vs, h1, by rw [upd_ne this]; exact h2, h3⟩
  ow := S.ow
/-- .. and may be read from now on -/
theorem StR.show {D : Addr} {o : HO} (ho : nt o) (S : StR K C mu G0 H0 env σ G H) (hD : H D = some o) (hG : G D = none) (h0 : Nw H0 D) (hw : ∀ j : Nat, Own env j → σ[j]? ≠ some (some (.ref D))) : StR K C mu G0 H0 env σ (upd G D o) H := by
  have s : Same G (upd G D o) := fun a u e => by rw [upd_ne (ne_of_none e hG)]; exact e
  exact {
    sub := fun a u e => by
      by_cases h : a = D
      · subst h; rw [upd_same] at e; cases e; exact hD
      · rw [upd_ne h] at e; exact S.sub _ _ e
    ng := fun a u e => by
      by_cases h : a = D
      · subst h; rw [upd_same] at e; cases e; exact ho
      · rw [upd_ne h] at e; exact S.ng _ _ e
    g0 := S.g0.trans s
    fz := S.fz
    new := fun a u e => by
      by_cases h : a = D
      · subst h; rw [upd_same] at e; cases e; exact .inr ⟨h0, ho⟩
      · rw [upd_ne h] at e; exact S.new _ _ e
    mh := S.mh
    len := S.len
    sh := fun i d e => let ⟨v, h1, h2⟩ := S.sh i d e; ⟨v, h1, Rp.mono s _ _ h2⟩
    ol := fun i m ds e => by
      obtain ⟨p, vs, h1, h2, h3, h4, h5⟩ := S.ol i m ds e
      have : p ≠ D := fun q => hw i ⟨m, ds, e⟩ (by rw [h1, q])
      exact ⟨p, vs, h1, h2, RpA.mono s _ _ h3, by rw [upd_ne this]; exact h4, h5⟩
    ow := S.ow }
/-! ### comprehensions -/
/-- what raises within a comprehension has no rule -/
def noRai {α : Type} (r : R α) : R α := match r with
  | .ok a => .ok a
  | _ => .stuck
theorem post_noRai {Rl : Hp → β → α → Prop} {Q : β → Hp → Prop} {r : RE α} (h : Post Rl K C E mu G0 H0 σ G (noRai r) Q) : Post Rl K C (fun _ _ _ => False) mu G0 H0 σ G r Q := by
  cases r with
  | ok p => exact h
  | rai c => exact h.elim
  | stuck => exact h
def compL (vs : List Nat) (b : Bi) (tt : MT) (f : M) : List PyData → LEnv → RE (List PyData)
  | [], e => .ok (e, [])
  | d :: r, e => match b d e with
    | .ok e1 => (noRai (tt e1)).bind fun t => bif t.2 then (noRai (f t.1)).bind fun y => (compL vs b tt f r (wipeE y.1 vs)).bind fun z => .ok (z.1, y.2 :: z.2) else compL vs b tt f r (wipeE t.1 vs)
    | _ => .stuck
def keepSh (s : Option (Option Sl)) : Option Sl := match s with
  | some (some (.sh d)) => some (.sh d)
  | _ => none
def restore (env : LEnv) (e : LEnv) : List Nat → LEnv
  | [] => e
  | v :: vs => (restore env e vs).set v (keepSh (nth env v))
theorem restore_length (env e : LEnv) : ∀ vs, (restore env e vs).length = e.length
  | [] => rfl
  | v :: vs => by unfold restore; rw [List.length_set, restore_length env e vs]
theorem restore_get (env e : LEnv) (vs : List Nat) (j : Nat) : (restore env e vs)[j]? = if j ∈ vs then (if j < e.length then some (keepSh env[j]?) else none) else e[j]? := by
  induction vs with
  | nil => simp [restore]
  | cons v vs ih =>
    unfold restore
    rw [get_set, ih, restore_length, nth_eq]
    by_cases h : v = j
    · subst h; simp
    · have h' : ¬ j = v := fun q => h q.symm
      simp only [List.mem_cons, h, h', if_false, false_or]
theorem StR.restore {e : LEnv} {vs : List Nat} {G1 H1 : Hp} (S1 : StR K C mu G0 H0 env σ G1 H1) (S : StR K C mu G0 H0 e (L2.wipe σ vs) G H) (s : Same G1 G) : StR K C mu G0 H0 (restore env e vs) σ G H := by
  have hl : e.length = σ.length := by rw [S.len, wipe_length]
  refine StR.of S (by rw [restore_length]; exact hl) fun i sl q => ?_
  rw [restore_get] at q
  by_cases h : i ∈ vs
  · rw [if_pos h] at q
    split at q
    · cases hk : env[i]? with
      | none => rw [hk] at q; cases q
      | some o =>
        cases o with
        | none => rw [hk] at q; cases q
        | some s0 =>
          cases s0 with
          | ow m ds => rw [hk] at q; cases q
          | sh d =>
            rw [hk] at q
            cases q
            obtain ⟨v, h1, h2⟩ := S1.sh i d hk
            exact .inr ⟨d, v, rfl, h1, Rp.mono s _ _ h2⟩
    · cases q
  · rw [if_neg h] at q
    exact .inl ⟨q, by rw [wipe_get, if_neg h]⟩
def mtYes : MT := fun env => .ok (env, true)
theorem sndt_yes : SndT K C E tYes mtYes := fun mu G0 H0 env σ G H Q S h => post_here S h rfl
def mComp (vs : List Nat) (mi : MA) (b : Bi) (tt : MT) (f : M) : M := fun env => (mi env).bind fun p => gd (Nat.blt p.2.length small) ((compL vs b tt f p.2 (wipeE p.1 vs)).bind fun z => .ok (restore p.1 z.1 vs, .list z.2))
theorem compL_rai {vs : List Nat} {b : Bi} {tt : MT} {f : M} {c : Nat} : ∀ (ds : List PyData) (e : LEnv), compL vs b tt f ds e ≠ .rai c
  | [], e => by simp [compL]
  | d :: r, e => by
    intro q
    unfold compL at q
    cases eb : b d e with
    | ok e1 =>
      rw [eb] at q
      dsimp only at q
      cases et : tt e1 with
      | ok t =>
        rw [et] at q
        have q : (bif t.2 then (noRai (f t.1)).bind fun y => (compL vs b tt f r (wipeE y.1 vs)).bind fun z => R.ok (z.1, y.2 :: z.2) else compL vs b tt f r (wipeE t.1 vs)) = R.rai c := q
        cases ht : t.2 with
        | true =>
          rw [ht] at q
          have q : ((noRai (f t.1)).bind fun y => (compL vs b tt f r (wipeE y.1 vs)).bind fun z => R.ok (z.1, y.2 :: z.2)) = R.rai c := q
          cases ef : f t.1 with
          | ok y =>
            rw [ef] at q
            have q : ((compL vs b tt f r (wipeE y.1 vs)).bind fun z => R.ok (z.1, y.2 :: z.2)) = R.rai c := q
            cases ec : compL vs b tt f r (wipeE y.1 vs) with
            | ok z => rw [ec] at q; cases q
            | rai c' => exact compL_rai r _ ec
            | stuck => rw [ec] at q; cases q
          | rai c' => rw [ef] at q; cases q
          | stuck => rw [ef] at q; cases q
        | false => rw [ht] at q; exact compL_rai r _ q
      | rai c' => rw [et] at q; cases q
      | stuck => rw [et] at q; cases q
    | rai c' => rw [eb] at q; cases q
    | stuck => rw [eb] at q; cases q
theorem snd_comp {wi : TI} {g : TG} {tt : TT} {te : TE} {vs : List Nat} {mi : MA} {b : Bi} {is : List Nat} {mt : MT} {f : M} (hi : SndI K C E wi mi) (hg : SndG K C g b is) (his : ∀ i ∈ is, i ∈ vs) (ht : SndT K C (fun _ _ _ => False) tt mt)
    (he : Snd K C (fun _ _ _ => False) te f) : Snd K C E (tLc wi g tt te vs) (mComp vs mi b mt f) := by
  intro mu G0 H0 env σ G H Q S h
  refine hi _ _ _ _ _ _ _ _ S (h.bind fun p J G1 H1 S1 s1 r1 h1 => ?_)
  obtain ⟨e0, ds⟩ := p
  obtain ⟨hlen, h1⟩ := Post.gd h1
  obtain ⟨xs, rv, hgo, hst, hy⟩ := r1.ex
  have hl : xs.length = ds.length := rv.length
  have hsm : ds.length < sizeLine := Nat.lt_of_lt_of_le (Nat.le_of_ble_eq_true hlen) small_le
  intro D hD
  have gD : G1 D = none := S1.sub.free hD
  have h0D : Nw H0 D := S1.none0 (nw_of hD)
  refine ⟨fun i m H => m = xs.length - i ∧ i ≤ xs.length ∧ ∃ e G acc ad, StR K C mu G0 H0 e (L2.wipe σ vs) G H ∧ Same G1 G ∧ H D = some (.lst acc) ∧ G D = none ∧ RpA K G acc ad ∧ acc.length ≤ i ∧ (∀ j, Own e j → (L2.wipe σ vs)[j]? ≠ some (some (.ref D))) ∧
      Post (RlE K) K C E mu G0 H0 σ G ((compL vs b mt f (ds.drop i) e).bind fun z => .ok (restore e0 z.1 vs, .list (ad ++ z.2))) Q, ⟨_, rfl, Nat.zero_le _, wipeE e0 vs, G1, [], [], ?_, .refl _, upd_same, gD, .nil, Nat.le_refl _, ?_, h1⟩, ?_⟩
  · exact (S1.wipe vs).ext (Xt.hid S1.sub S1.fz.tb hD)
  · intro j ⟨m, dd, hj⟩ q
    obtain ⟨p, ws, e1, e2, _⟩ := (S1.wipe vs).ol j m dd hj
    rw [e1] at q
    cases q
    rw [hD] at e2; cases e2
  rintro i m H2 ⟨rfl, hle, e2, G2, acc, ad, S2, s2, hacc, hG2, racc, hil, hown, p2⟩
  by_cases hlt : i < xs.length
  · refine .inr ⟨hgo i H2 (s2.trans S2.sub) hlt, fun H' => i + 1 ≤ xs.length ∧ ∃ e G acc ad, StR K C mu G0 H0 e (L2.wipe σ vs) G H' ∧ Same G1 G ∧ H' D = some (.lst acc) ∧ G D = none ∧ RpA K G acc ad ∧ acc.length ≤ i + 1 ∧ (∀ j, Own e j → (L2.wipe σ vs)[j]? ≠ some (some (.ref D))) ∧
      Post (RlE K) K C E mu G0 H0 σ G ((compL vs b mt f (ds.drop (i + 1)) e).bind fun z => .ok (restore e0 z.1 vs, .list (ad ++ z.2))) Q, fun H' n => ⟨xs.length - (i + 1), by omega, rfl, n.1, n.2⟩, fun x H' y => ?_⟩
    obtain ⟨eH, hx⟩ := hy i H2 x H' (s2.trans S2.sub) y hlt
    rw [eH]
    obtain ⟨d, hd, rd⟩ := rv.getV hx
    have ed : ds.drop i = d :: ds.drop (i + 1) := by
      obtain ⟨hlt', e'⟩ := List.getElem?_eq_some_iff.mp hd
      rw [List.drop_eq_getElem_cons hlt', e']
    rw [ed] at p2
    refine hg _ _ _ _ _ _ _ _ _ _ S2.rebase (Rp.mono s2 _ _ rd) ?_
    have p2 : Post (RlE K) K C E mu G0 H0 σ G2 ((match b d e2 with
      | .ok e1 => (noRai (mt e1)).bind fun t => bif t.2 then (noRai (f t.1)).bind fun y => (compL vs b mt f (ds.drop (i + 1)) (wipeE y.1 vs)).bind fun z => .ok (z.1, y.2 :: z.2) else compL vs b mt f (ds.drop (i + 1)) (wipeE t.1 vs)
      | _ => .stuck).bind fun z => .ok (restore e0 z.1 vs, .list (ad ++ z.2))) Q := p2
    cases eb : b d e2 with
    | rai c => rw [eb] at p2; exact p2
    | stuck => rw [eb] at p2; exact p2
    | ok e3 =>
      rw [eb] at p2
      intro σ3 S3 l3 k3
      have hw : L2.wipe σ3 vs = L2.wipe (L2.wipe σ vs) vs := wipe_same l3 fun j hj => k3 j fun q => hj (his j q)
      have hww : L2.wipe (L2.wipe σ vs) vs = L2.wipe σ vs := wipe_same (wipe_length _ _) fun j hj => by rw [wipe_get, if_neg hj]
      refine ⟨hw.trans hww, ?_⟩
      have noch : ¬ (mu.plus e2 (L2.wipe σ vs)).ch D := fun z => by
        rcases z with z | ⟨j, oj, hj⟩
        · exact S1.noch (nw_of hD) z
        · exact hown j oj hj
      -- D's list stands through the turn, hidden, and no slot has it
      have stands : ∀ {e G H}, StR K C (mu.plus e2 (L2.wipe σ vs)) G2 H2 e σ3 G H → H D = some (.lst acc) ∧ G D = none ∧ ∀ j : Nat, Own e j → σ3[j]? ≠ some (some (.ref D)) := fun {e G H} S => by
        refine ⟨S.fz.k D _ noch nt_lst hacc, ?_, fun j ⟨m, dd, oj⟩ q => ?_⟩
        · cases q : G D with
          | none => rfl
          | some u =>
            rcases S.new D u q with z | z
            · rw [hG2] at z; cases z
            · exact (z.1 _ nt_lst hacc).elim
        · obtain ⟨p, ws, e1, e2', e3', e4', e5'⟩ := S.ol j m dd oj
          rw [e1] at q
          cases q
          cases m with
          | true => exact noch (.inl (mu.sub _ e5'))
          | false =>
            rcases e5' with z | z
            · exact noch z
            · exact z _ nt_lst hacc
      -- the next turn's state
      have wiped : ∀ {e G H}, StR K C mu G0 H0 e σ3 G H → StR K C mu G0 H0 (wipeE e vs) (L2.wipe σ vs) G H := fun {e G H} S => by
        have := S.wipe vs
        rw [hw, hww] at this
        exact this
      have wipedOwn : ∀ {e}, (∀ j : Nat, Own e j → σ3[j]? ≠ some (some (.ref D))) → ∀ j : Nat, Own (wipeE e vs) j → (L2.wipe σ vs)[j]? ≠ some (some (.ref D)) := fun {e} h j oj q => by
        have wg : ∀ (e : LEnv) (vs : List Nat) (j : Nat) (s : Sl), (wipeE e vs)[j]? = some (some s) → e[j]? = some (some s) ∧ j ∉ vs := by
          intro e vs
          induction vs with
          | nil => intro j s h; exact ⟨h, by simp⟩
          | cons v vs ih =>
            intro j s h
            unfold wipeE at h
            rw [get_set] at h
            by_cases hv : v = j
            · subst hv; rw [if_pos rfl] at h; split at h <;> cases h
            · rw [if_neg hv] at h
              obtain ⟨h1, h2⟩ := ih j s h
              exact ⟨h1, by simp only [List.mem_cons, not_or]; exact ⟨fun z => hv z.symm, h2⟩⟩
        obtain ⟨m, dd, oj⟩ := oj
        obtain ⟨o1, o2⟩ := wg e vs j _ oj
        refine h j ⟨m, dd, o1⟩ ?_
        rw [← hww, ← hw, wipe_get, if_neg o2] at q
        exact q
      have p2 : Post (RlE K) K C E mu G0 H0 σ G2 (((noRai (mt e3)).bind fun t => bif t.2 then (noRai (f t.1)).bind fun y => (compL vs b mt f (ds.drop (i + 1)) (wipeE y.1 vs)).bind fun z => .ok (z.1, y.2 :: z.2) else compL vs b mt f (ds.drop (i + 1)) (wipeE t.1 vs)).bind fun z => .ok (restore e0 z.1 vs, .list (ad ++ z.2))) Q := p2
      refine ht _ _ _ _ _ _ _ _ S3 ?_
      cases et : mt e3 with
      | rai c => rw [et] at p2; exact p2.elim
      | stuck => rw [et] at p2; exact p2
      | ok t =>
        rw [et] at p2
        obtain ⟨e4, tb⟩ := t
        intro bv G4 H4 S4 s4 rb
        have S4 : StR K C (mu.plus e2 (L2.wipe σ vs)) G2 H2 e4 σ3 G4 H4 := S4
        obtain rfl : bv = tb := rb
        have p2 : Post (RlE K) K C E mu G0 H0 σ G2 ((bif bv then (noRai (f e4)).bind fun y => (compL vs b mt f (ds.drop (i + 1)) (wipeE y.1 vs)).bind fun z => .ok (z.1, y.2 :: z.2) else compL vs b mt f (ds.drop (i + 1)) (wipeE e4 vs)).bind fun z => .ok (restore e0 z.1 vs, .list (ad ++ z.2))) Q := p2
        cases bv with
        | false =>
          refine iteF ⟨hlt, wipeE e4 vs, G4, acc, ad, wiped (StR.unbase S2 S4), s2.trans s4, (stands S4).1, (stands S4).2.1, RpA.mono s4 _ _ racc, by omega, wipedOwn (stands S4).2.2, ?_⟩
          exact p2.mono s4
        | true =>
          refine iteT ?_
          have p2 : Post (RlE K) K C E mu G0 H0 σ G2 (((noRai (f e4)).bind fun y => (compL vs b mt f (ds.drop (i + 1)) (wipeE y.1 vs)).bind fun z => .ok (z.1, y.2 :: z.2)).bind fun z => .ok (restore e0 z.1 vs, .list (ad ++ z.2))) Q := p2
          refine he _ _ _ _ _ _ _ _ S4 ?_
          cases ef : f e4 with
          | rai c => rw [ef] at p2; exact p2.elim
          | stuck => rw [ef] at p2; exact p2
          | ok y =>
            rw [ef] at p2
            obtain ⟨e5, dy⟩ := y
            intro yv G5 H5 S5 s5 ry
            have S5 : StR K C (mu.plus e2 (L2.wipe σ vs)) G2 H2 e5 σ3 G5 H5 := S5
            have ry : Rp K G5 yv dy := ry
            obtain ⟨st1, st2, st3⟩ := stands S5
            have U := StR.unbase S2 S5
            refine ⟨acc, st1, by omega, hlt, wipeE e5 vs, G5, acc ++ [yv], ad ++ [dy], wiped (U.upd_hid st1 st2 h0D st3), (s2.trans s4).trans s5, upd_same, st2, (RpA.mono (s4.trans s5) _ _ racc).append (.cons ry .nil), by rw [List.length_append]; show acc.length + 1 ≤ i + 1; omega, wipedOwn st3, ?_⟩
            have p2 : Post (RlE K) K C E mu G0 H0 σ G2 (((compL vs b mt f (ds.drop (i + 1)) (wipeE e5 vs)).bind fun z => .ok (z.1, dy :: z.2)).bind fun z => .ok (restore e0 z.1 vs, .list (ad ++ z.2))) Q := p2
            cases ec : compL vs b mt f (ds.drop (i + 1)) (wipeE e5 vs) with
            | rai c => exact absurd ec (compL_rai _ _)
            | stuck => rw [ec] at p2; exact p2
            | ok z =>
              rw [ec] at p2
              have p2 : Post (RlE K) K C E mu G0 H0 σ G2 (.ok (restore e0 z.1 vs, .list (ad ++ dy :: z.2))) Q := p2
              have p3 : Post (RlE K) K C E mu G0 H0 σ G2 (.ok (restore e0 z.1 vs, .list ((ad ++ [dy]) ++ z.2))) Q := by
                rw [List.append_assoc]
                exact p2
              exact p3.mono (s4.trans s5)
  · refine .inl ⟨hst i H2 (s2.trans S2.sub) (by omega), ?_⟩
    rw [List.drop_eq_nil_of_le (by omega)] at p2
    have p2 : Post (RlE K) K C E mu G0 H0 σ G2 (.ok (restore e0 e2 vs, .list (ad ++ []))) Q := p2
    rw [List.append_nil] at p2
    have S4 := StR.restore (vs := vs) S1 S2 s2
    have hw4 : ∀ j : Nat, Own (restore e0 e2 vs) j → σ[j]? ≠ some (some (.ref D)) := fun j ⟨m, dd, oj⟩ q => by
      rw [restore_get] at oj
      by_cases hj : j ∈ vs
      · rw [if_pos hj] at oj
        split at oj
        · cases hk : e0[j]? with
          | none => rw [hk] at oj; cases oj
          | some o =>
            cases o with
            | none => rw [hk] at oj; cases oj
            | some s0 => cases s0 <;> (rw [hk] at oj; cases oj)
        · cases oj
      · rw [if_neg hj] at oj
        exact hown j ⟨m, dd, oj⟩ (by rw [wipe_get, if_neg hj]; exact q)
    have sG : Same G2 (upd G2 D (.lst acc)) := fun a u e => by rw [upd_ne (ne_of_none e hG2)]; exact e
    exact p2 (.ref D) (upd G2 D (.lst acc)) H2 (StR.show nt_lst S4 hacc hG2 h0D hw4) sG (.lst upd_same (RpA.mono sG _ _ racc))
end
end LW

namespace LW
open PySem PySem.Spec PyProof.Rows L2
section
variable {K : PySem.W.Frag} {mu : Mu} {G0 H0 G H G' H' : Hp} {env env' : LEnv} {σ σ' : L2.St} {C : Cl} {E : XK} {α β γ δ : Type}
/-! ### defs -/
def PostR (K : PySem.W.Frag) (C : Cl) (E : XK) (G H : Hp) : R PyData → VK → Prop
  | .ok d, Q => ∀ v G' H', Xt C.T G H G' H' → Rp K G' v d → Q v H'
  | .rai c, _ => ∀ H', Fz C.T (fun _ => False) H H' → E (C.cl c) none H'
  | .stuck, _ => False
/-- what a def of data promises: its answer by run -/
def spP (K : PySem.W.Frag) (C : Cl) (n : Nat) (run : List PyData → R PyData) : Sp := fun vs H Q E => vs.length = n ∧ LamX.Tabs C.T H ∧ ∃ G ds, Same G H ∧ (∀ a o, G a = some o → nt o) ∧ RpA K G vs ds ∧ PostR K C E G H (run ds) Q
def startE (n : Nat) (ds : List PyData) : LEnv := ds.map (fun d => some (.sh d)) ++ List.replicate (n - ds.length) none
def outS : RS → R PyData
  | .rt _ d => .ok d
  | .nx _ => .ok .none
  | .rai c => .rai c
  | _ => .stuck
def runS (n : Nat) (ms : MS) : List PyData → R PyData := fun ds => outS (ms (startE n ds))
theorem start_get {N : List Str} {vs : List V} (i : Nat) : (L2.start N vs)[i]? = if i < vs.length then (vs[i]?).map some else if i < N.length then some none else none := by
  unfold L2.start
  by_cases h : i < vs.length
  · rw [if_pos h, List.getElem?_append_left (by rw [List.length_map]; exact h), List.getElem?_map]
  · rw [if_neg h, List.getElem?_append_right (by rw [List.length_map]; omega), List.length_map, List.getElem?_replicate]
    by_cases h2 : i < N.length
    · rw [if_pos h2, if_pos (by omega)]
    · rw [if_neg h2, if_neg (by omega)]
theorem startE_get {n : Nat} {ds : List PyData} (i : Nat) : (startE n ds)[i]? = if i < ds.length then (ds[i]?).map (fun d => some (.sh d)) else if i < n then some none else none := by
  unfold startE
  by_cases h : i < ds.length
  · rw [if_pos h, List.getElem?_append_left (by rw [List.length_map]; exact h), List.getElem?_map]
  · rw [if_neg h, List.getElem?_append_right (by rw [List.length_map]; omega), List.length_map, List.getElem?_replicate]
    by_cases h2 : i < n
    · rw [if_pos h2, if_pos (by omega)]
    · rw [if_neg h2, if_neg (by omega)]
theorem StR.begin {N : List Str} {vs : List V} {ds : List PyData} (s : Same G H) (gn : ∀ a o, G a = some o → nt o) (tb : LamX.Tabs C.T H) (r : RpA K G vs ds) (hn : vs.length ≤ N.length) : StR K C mu0 G H (startE N.length ds) (L2.start N vs) G H where
  sub := s
  ng := gn
  g0 := .refl _
  fz := .refl tb
  new := fun _ _ e => .inl e
  mh := fun _ m => m.elim
  len := by
    unfold startE L2.start
    rw [List.length_append, List.length_append, List.length_map, List.length_map, List.length_replicate, List.length_replicate, r.length]
  sh := fun i d e => by
    have hl := r.length
    rw [startE_get] at e
    by_cases h : i < ds.length
    · rw [if_pos h] at e
      cases q : ds[i]? with
      | none => rw [q] at e; cases e
      | some d' =>
        rw [q] at e
        cases e
        obtain ⟨v, h1, h2⟩ := r.get q
        exact ⟨v, by rw [start_get, if_pos (by omega), h1]; rfl, h2⟩
    · rw [if_neg h] at e; split at e <;> cases e
  ol := fun i m ds' e => by
    rw [startE_get] at e
    split at e
    · cases q : ds[i]? with
      | none => rw [q] at e; cases e
      | some d' => rw [q] at e; cases e
    · split at e <;> cases e
  ow := fun i j p ⟨m, dd, e⟩ _ _ _ => by
    rw [startE_get] at e
    split at e
    · cases q : ds[i]? with
      | none => rw [q] at e; cases e
      | some d' => rw [q] at e; cases e
    · split at e <;> cases e
theorem StR.xt (S : StR K C mu0 G0 H0 env σ G H) : Xt C.T G0 H0 G H := ⟨S.g0, S.sub, S.fz, S.new⟩
section
variable {P : Program} {w : World} {mg : Str → Option Value} {base : Heap}
theorem fn_ok {x qual : Str} {st : Stmt} {f : Addr} {fd : FuncData} {N ps : List Str} {k : Nat} {ms : MS} (F : Fun K x qual st f fd) (S : FnScope N ps (defScope st)) (hn : ps.length ≤ N.length)
    (hb : ∀ (cdv : Value) (A : Around) (outer : List PySem.Env) (s : Shared) (H : Hp) (E : XK), Room k (A.deeper (envOfC qual (defScope st) s.heap.objs.size f cdv)) →
      ∃ t, PSs (cxOf (L2.CX P w) P w K mg base N qual (defScope st) f cdv A outer s H E) (defBody st) t ∧ SndS K C E t ms) : FnOk P w K mg base (L2.CX P w) (k + 1) f fd ps (spP K C ps.length (runS N.length ms)) := by
  refine F.okX S (fun vs H Q E h => h.1) fun cdv A outer s H vs Q E hr h => ?_
  obtain ⟨hl, tb, G, ds, sG, gn, r, p⟩ := h
  obtain ⟨t, ht, hs⟩ := hb cdv A outer s H E hr
  refine ⟨t, ht, hs _ _ _ _ _ _ _ _ (StR.begin sG gn tb r (by omega)) ?_⟩
  have p : PostR K C E G H (outS (ms (startE N.length ds))) Q := p
  cases e : ms (startE N.length ds) with
  | nx e' => rw [e] at p; exact fun σ' G' H' S' _ => p .non G' H' S'.xt .non
  | rt e' d => rw [e] at p; exact fun v σ' G' H' S' _ r' => p v G' H' S'.xt r'
  | rai c => rw [e] at p; exact fun H' fz => p H' fz
  | bk e' => rw [e] at p; exact p.elim
  | ct e' => rw [e] at p; exact p.elim
  | stuck => rw [e] at p; exact p
/-- a def as its callers know it -/
structure FnI (P : Program) (w : World) (K : PySem.W.Frag) (mg : Str → Option Value) (base : Heap) (C : Cl) (k : Nat) (x : Str) (n : Nat) (run : List PyData → R PyData) : Prop where
  ex : ∃ (f : Addr) (fd : FuncData) (ps : List Str), FnOk P w K mg base (L2.CX P w) k f fd ps (spP K C n run) ∧ mg x = some (.ref f) ∧ PySem.W.keepIn K (.ref f) = true ∧ Binds K fd ps []
theorem spP.imp {n : Nat} {run run' : List PyData → R PyData} (h : ∀ ds, run' ds ≠ .stuck → run ds = run' ds) {vs : List V} {H : Hp} {Q : VK} {E : XK} (q : spP K C n run' vs H Q E) : spP K C n run vs H Q E := by
  obtain ⟨hl, tb, G, ds, s, gn, r, p⟩ := q
  refine ⟨hl, tb, G, ds, s, gn, r, ?_⟩
  rw [h ds fun z => by rw [z] at p; exact p]
  exact p
/-- a swifter account of the same answers -/
theorem FnI.imp {k n : Nat} {x : Str} {run run' : List PyData → R PyData} (F : FnI P w K mg base C k x n run) (h : ∀ ds, run' ds ≠ .stuck → run ds = run' ds) : FnI P w K mg base C k x n run' := by
  obtain ⟨f, fd, ps, G, a, b, c⟩ := F.ex
  exact ⟨f, fd, ps, G.imp fun vs H Q E q => spP.imp h q, a, b, c⟩
end
def mCall (n : Nat) (run : List PyData → R PyData) (g : MA) : M := fun env => (g env).bind fun q => gd (Nat.beq q.2.length n) (lif q.1 (run q.2))
theorem snd_call {n : Nat} {run : List PyData → R PyData} {ta : TA} {g : MA} (h : SndA K C E ta g) : Snd K C E (tCallS (spP K C n run) (fun _ => E) ta) (mCall n run g) := by
  intro mu G0 H0 env σ G H Q S hh
  refine h _ _ _ _ _ _ _ _ S (hh.bind fun p xs G1 H1 S1 s1 r1 h1 => ?_)
  obtain ⟨e, ds⟩ := p
  obtain ⟨c, h1⟩ := Post.gd h1
  refine ⟨r1.length.trans (Nat.eq_of_beq_eq_true c), S1.fz.tb, G1, ds, S1.sub, S1.ng, r1, ?_⟩
  have h1 : Post (RlE K) K C E mu G0 H0 σ G1 (lif e (run ds)) Q := h1
  cases er : run ds with
  | ok d => rw [er] at h1; exact fun v G' H' x r => h1 v G' H' (S1.ext x) x.g r
  | rai c' => rw [er] at h1; exact fun H' s => h1 H' (S1.fz.trans s)
  | stuck => rw [er] at h1; exact h1.elim
/-- f(*e) -/
def mCallStar (n : Nat) (run : List PyData → R PyData) (f : M) : M := fun env => (f env).bind fun q => (seqOf q.2).bind fun ds => gd (Nat.beq ds.length n) (lif q.1 (run ds))
theorem snd_callStar {n : Nat} {run : List PyData → R PyData} {te : TE} {f : M} (h : Snd K C E te f) :
    Snd K C E (fun σ H Q => te σ H fun y H1 => ∃ a xs, y = V.ref a ∧ (SqT K H1 a xs ∨ SqL K H1 a xs) ∧ spP K C n run xs H1 Q E) (mCallStar n run f) := by
  intro mu G0 H0 env σ G H Q S hh
  refine h _ _ _ _ _ _ _ _ S (hh.bind fun p x G1 H1 S1 s1 r1 h1 => ?_)
  obtain ⟨e, d⟩ := p
  have go : ∀ (xs : List V) (ds : List PyData), RpA K G1 xs ds → Post (RlE K) K C E mu G0 H0 σ G1 (gd (Nat.beq ds.length n) (lif e (run ds))) Q → spP K C n run xs H1 Q E := fun xs ds r h1 => by
    obtain ⟨c, h1⟩ := Post.gd h1
    refine ⟨r.length.trans (Nat.eq_of_beq_eq_true c), S1.fz.tb, G1, ds, S1.sub, S1.ng, r, ?_⟩
    cases er : run ds with
    | ok d => rw [er] at h1; exact fun v G' H' x r => h1 v G' H' (S1.ext x) x.g r
    | rai c' => rw [er] at h1; exact fun H' s => h1 H' (S1.fz.trans s)
    | stuck => rw [er] at h1; exact h1.elim
  cases r1 with
  | lst a b => exact ⟨_, _, rfl, .inr (SqL.of (S1.sub _ _ a)), go _ _ b h1⟩
  | tup a b => exact ⟨_, _, rfl, .inl (sqt_same S1.sub a), go _ _ b h1⟩
  | _ => exact h1.elim
end
end LW

namespace LW
open PySem PySem.Spec PyProof.Rows L2
abbrev rAddI : R2 := rI0 fun i j => .int (i + j)
abbrev rSubI : R2 := rI0 fun i j => .int (i - j)
abbrev rMulI : R2 := rI CMul fun i j => .int (i * j)
abbrev rDivI : R2 := rI CDivN fun i j => .int (i.fdiv j)
abbrev rModI : R2 := rI (fun _ j => j ≠ 0) fun i j => .int (i.fmod j)
abbrev rAndI : R2 := rI0 fun i j => .int (Builtin.bitAnd i j)
abbrev rNegI : V → Hp → VK → Prop := rU fun i => .int (-i)
abbrev rLtI : R2 := rI0 fun i j => .bl (decide (i < j))
abbrev rLeI : R2 := rI0 fun i j => .bl (decide (i ≤ j))
abbrev rGtI : R2 := rI0 fun i j => .bl (decide (j < i))
abbrev rGeI : R2 := rI0 fun i j => .bl (decide (j ≤ i))
/-- what may leave, wherever one stands -/
abbrev WW (E : XK) : WX := fun cls d _ H => E cls d H
abbrev EX0 : XK := fun _ _ _ => False
structure ED (X : Cx) (C : Cl) (E : XK) (e : Expr) (te : TE) (m : M) : Prop where
  pe : PE X e te
  sd : Snd X.K C E te m
structure AD (X : Cx) (C : Cl) (E : XK) (es : List Expr) (ta : TA) (m : MA) : Prop where
  pe : PA X es ta
  sd : SndA X.K C E ta m
structure TD (X : Cx) (C : Cl) (E : XK) (e : Expr) (tt : TT) (m : MT) : Prop where
  pe : PT X e tt
  sd : SndT X.K C E tt m
structure WD (X : Cx) (C : Cl) (E : XK) (e : Expr) (tt : TT) (m : MT) : Prop where
  pe : PW X e tt
  sd : SndT X.K C E tt m
structure ID (X : Cx) (C : Cl) (E : XK) (tg e : Expr) (wi : TI) (m : MA) : Prop where
  pe : PI X tg e wi
  sd : SndI X.K C E wi m
structure GD (X : Cx) (C : Cl) (tg : Expr) (g : TG) (b : Bi) (is : List Nat) : Prop where
  pe : PG X tg g
  sd : SndG X.K C g b is
structure GDs (X : Cx) (C : Cl) (tg : List Expr) (g : TGs) (b : BiA) (is : List Nat) : Prop where
  pe : PGs X tg g
  sd : SndGs X.K C g b is
structure SD (X : Cx) (C : Cl) (E : XK) (s : Stmt) (ts : TS) (m : MS) : Prop where
  pe : PS X s ts
  sd : SndS X.K C E ts m
structure BD (X : Cx) (C : Cl) (E : XK) (s : List Stmt) (ts : TS) (m : MS) : Prop where
  pe : PSs X s ts
  sd : SndS X.K C E ts m
section
variable {X : Cx} {C : Cl} {E : XK} {a b c e : Expr} {es : List Expr} {ta tb tc te : TE} {taa : TA} {tt tu : TT} {f g h : M} {ma : MA} {mt mu' : MT} {pos p : Pos}
/-! ### expressions -/
theorem d_var (i : Nat) {x : Str} (hN : X.N[i]? = some x := by rfl) (hv : Vis X.env.scope x := by first | exact Or.inl rfl | exact Or.inr (Or.inl rfl) | exact Or.inr (Or.inr rfl)) (hd : (x == ("__debug__" : Str)) = false := by decide)
    (hcd : (x == ("__classdict__" : Str)) = false := by decide) : ED X C E (.Name x pos) (tVar i) (mVar i) := ⟨pe_var hN hv hd hcd, snd_var⟩
theorem d_int {i j} : ED X C E (.Constant (.int i) j pos) (tC (.int i)) (mC (.int i)) := ⟨pe_int, snd_c fun _ => .int _⟩
theorem d_bl {i j} : ED X C E (.Constant (.bool i) j pos) (tC (.bl i)) (mC (.bool i)) := ⟨pe_bl, snd_c fun _ => .bl _⟩
theorem d_str {i j} : ED X C E (.Constant (.str i) j pos) (tC (.str i)) (mC (.str i)) := ⟨pe_str, snd_c fun _ => .str _⟩
theorem d_non {j} : ED X C E (.Constant .none j pos) (tC .non) (mC .none) := ⟨pe_non, snd_c fun _ => .non⟩
theorem d_op {op : Operator} {r : R2} {o : PyData → PyData → R PyData} (ho : OpR X (binaryOp op) r) (hs : OpS X.K C E r o) (ha : ED X C E a ta f) (hb : ED X C E b tb g) : ED X C E (.BinOp a op b pos) (tOp r ta tb) (mOp o f g) := ⟨pe_op ho ha.pe hb.pe, snd_op hs ha.sd hb.sd⟩
theorem d_add (ha : ED X C E a ta f) (hb : ED X C E b tb g) : ED X C E (.BinOp a .Add b pos) (tOp rAddI ta tb) (mOp iAdd f g) := d_op op_add ops_addI ha hb
theorem d_sub (ha : ED X C E a ta f) (hb : ED X C E b tb g) : ED X C E (.BinOp a .Sub b pos) (tOp rSubI ta tb) (mOp iSub f g) := d_op op_sub ops_subI ha hb
theorem d_mul (ha : ED X C E a ta f) (hb : ED X C E b tb g) : ED X C E (.BinOp a .Mult b pos) (tOp rMulI ta tb) (mOp iMul f g) := d_op op_mul ops_mulI ha hb
theorem d_div (ha : ED X C E a ta f) (hb : ED X C E b tb g) : ED X C E (.BinOp a .FloorDiv b pos) (tOp rDivI ta tb) (mOp iDiv f g) := d_op op_fdivN ops_divI ha hb
theorem d_mod (ha : ED X C E a ta f) (hb : ED X C E b tb g) : ED X C E (.BinOp a .Mod b pos) (tOp rModI ta tb) (mOp iMod f g) := d_op op_modN ops_modI ha hb
theorem d_and (ha : ED X C E a ta f) (hb : ED X C E b tb g) : ED X C E (.BinOp a .BitAnd b pos) (tOp rAndI ta tb) (mOp iAnd f g) := d_op op_and ops_andI ha hb
theorem d_neg (ha : ED X C E a ta f) : ED X C E (.UnaryOp .USub a pos) (tUn rNegI ta) (mUn uNeg f) := ⟨pe_un un_neg ha.pe, snd_un uns_neg ha.sd⟩
theorem d_tup {x1} (h : AD X C E es taa ma) : ED X C E (.Tuple es x1 pos) (tTup taa) (mTup ma) := ⟨pe_tup h.pe, snd_tup h.sd⟩
theorem d_lst (h : AD X C E es taa ma) : ED X C E (.List es pos) (tLst taa) (mLst ma) := ⟨pe_lst h.pe, snd_lst h.sd⟩
theorem d_nil : AD X C E [] tNil maNil := ⟨pa_nil, snda_nil⟩
theorem d_cons (ha : ED X C E e te f) (hr : AD X C E es taa ma) (hs : starEach (e :: es) X.env = (false, eval e X.env) :: starEach es X.env := by rfl) : AD X C E (e :: es) (tCons te taa) (maCons f ma) := ⟨pa_cons ha.pe hr.pe hs, snda_cons ha.sd hr.sd⟩
theorem d_ix (ha : ED X C E a ta f) (hb : ED X C E b tb g) (hs : PlainIx b := by exact fun _ _ => rfl) : ED X C E (.Subscript a b pos) (tOp (rIx X.K) ta tb) (mOp iIx f g) := ⟨pe_ix ix_seq ha.pe hb.pe hs, snd_op ops_ix ha.sd hb.sd⟩
theorem d_cmpR {op : CmpOp} {r : R2} {o : PyData → PyData → R PyData} (ho : OpR X (compareOp op) r) (hs : OpS X.K C E r o) (hm : behindInMarks op b = false) (ha : ED X C E a ta f) (hb : ED X C E b tb g) : ED X C E (.Compare a [op] [b] pos) (tOp r ta tb) (mOp o f g) := ⟨pe_cmpR ho ha.pe hb.pe hm, snd_op hs ha.sd hb.sd⟩
theorem d_lt (ha : ED X C E a ta f) (hb : ED X C E b tb g) : ED X C E (.Compare a [.Lt] [b] pos) (tOp rLtI ta tb) (mOp (iCmp fun i j => decide (i < j)) f g) := d_cmpR op_lt ops_cmp (nomark _) ha hb
theorem d_le (ha : ED X C E a ta f) (hb : ED X C E b tb g) : ED X C E (.Compare a [.LtE] [b] pos) (tOp rLeI ta tb) (mOp (iCmp fun i j => decide (i ≤ j)) f g) := d_cmpR op_le ops_cmp (nomark _) ha hb
theorem d_gt (ha : ED X C E a ta f) (hb : ED X C E b tb g) : ED X C E (.Compare a [.Gt] [b] pos) (tOp rGtI ta tb) (mOp (iCmp fun i j => decide (j < i)) f g) := d_cmpR op_gt ops_cmp (nomark _) ha hb
theorem d_ge (ha : ED X C E a ta f) (hb : ED X C E b tb g) : ED X C E (.Compare a [.GtE] [b] pos) (tOp rGeI ta tb) (mOp (iCmp fun i j => decide (j ≤ i)) f g) := d_cmpR op_ge ops_cmp (nomark _) ha hb
theorem d_eq (hu : X.A.units + 64 < cLine) (ha : ED X C E a ta f) (hb : ED X C E b tb g) : ED X C E (.Compare a [.Eq] [b] pos) (tOp (rEqD X.K) ta tb) (mOp iEq f g) := d_cmpR (op_eqD hu) ops_eq (nomark _) ha hb
theorem d_ne (hu : X.A.units + 64 < cLine) (ha : ED X C E a ta f) (hb : ED X C E b tb g) : ED X C E (.Compare a [.NotEq] [b] pos) (tOp (rNeD X.K) ta tb) (mOp iNe f g) := d_cmpR (op_neD hu) ops_ne (nomark _) ha hb
theorem d_ifExp (hc : TD X C E c tt mt) (ha : ED X C E a ta f) (hb : ED X C E b tb g) : ED X C E (.IfExp c a b pos) (tIf tt ta tb) (mIf mt f g) := ⟨pe_ifExp hc.pe ha.pe hb.pe, snd_if hc.sd ha.sd hb.sd⟩
theorem d_andV (ha : ED X C E a ta f) (hb : ED X C E (.BoolOp .And (b :: es) pos) tb g) : ED X C E (.BoolOp .And (a :: b :: es) pos) (tAndV ta tb) (mAndV f g) := ⟨pe_and ha.pe hb.pe, snd_andV ha.sd hb.sd⟩
theorem d_one {op} (ha : ED X C E a ta f) : ED X C E (.BoolOp op [a] pos) ta f := ⟨pe_one ha.pe, ha.sd⟩
/-! ### tests -/
theorem t_cmp (h : ED X C E e te f) (he : ∀ whole, isTrue e X.env whole = (do let v ← whole; standAt e.pos; holding [v] (truthy v)) := by intro _; rfl) : TD X C E e (tB te) (mtB f) := ⟨pt_val h.pe he, sndt_B h.sd⟩
theorem t_cmpR {op : CmpOp} {r : R2} {o : PyData → PyData → R PyData} (ho : OpR X (compareOp op) r) (hs : OpS X.K C E r o) (hm : behindInMarks op b = false) (ha : ED X C E a ta f) (hb : ED X C E b tb g) : TD X C E (.Compare a [op] [b] pos) (tTest (tOp r ta tb)) (mtB (mOp o f g)) := ⟨pt_cmpR ho ha.pe hb.pe hm, sndt_test (snd_op hs ha.sd hb.sd)⟩
theorem t_lt (ha : ED X C E a ta f) (hb : ED X C E b tb g) : TD X C E (.Compare a [.Lt] [b] pos) (tTest (tOp rLtI ta tb)) (mtB (mOp (iCmp fun i j => decide (i < j)) f g)) := t_cmpR op_lt ops_cmp (nomark _) ha hb
theorem t_le (ha : ED X C E a ta f) (hb : ED X C E b tb g) : TD X C E (.Compare a [.LtE] [b] pos) (tTest (tOp rLeI ta tb)) (mtB (mOp (iCmp fun i j => decide (i ≤ j)) f g)) := t_cmpR op_le ops_cmp (nomark _) ha hb
theorem t_gt (ha : ED X C E a ta f) (hb : ED X C E b tb g) : TD X C E (.Compare a [.Gt] [b] pos) (tTest (tOp rGtI ta tb)) (mtB (mOp (iCmp fun i j => decide (j < i)) f g)) := t_cmpR op_gt ops_cmp (nomark _) ha hb
theorem t_ge (ha : ED X C E a ta f) (hb : ED X C E b tb g) : TD X C E (.Compare a [.GtE] [b] pos) (tTest (tOp rGeI ta tb)) (mtB (mOp (iCmp fun i j => decide (j ≤ i)) f g)) := t_cmpR op_ge ops_cmp (nomark _) ha hb
theorem t_eq (hu : X.A.units + 64 < cLine) (ha : ED X C E a ta f) (hb : ED X C E b tb g) : TD X C E (.Compare a [.Eq] [b] pos) (tTest (tOp (rEqD X.K) ta tb)) (mtB (mOp iEq f g)) := t_cmpR (op_eqD hu) ops_eq (nomark _) ha hb
theorem t_ne (hu : X.A.units + 64 < cLine) (ha : ED X C E a ta f) (hb : ED X C E b tb g) : TD X C E (.Compare a [.NotEq] [b] pos) (tTest (tOp (rNeD X.K) ta tb)) (mtB (mOp iNe f g)) := t_cmpR (op_neD hu) ops_ne (nomark _) ha hb
theorem t_tru (h : ED X C E e te f) (he : ∀ whole, isTrue e X.env whole = (do let v ← whole; standAt e.pos; holding [v] (truthy v)) := by intro _; rfl) : TD X C E e (fun σ H Q => te σ H fun x H' => ∃ k, TruV X.K x H' k ∧ Q k H') (mtTru f) := ⟨pt_truth h.pe he, sndt_tru h.sd⟩
theorem t_not (h : TD X C E a tt mt) : TD X C E (.UnaryOp .Not a pos) (tNot tt) (mtNot mt) := ⟨pt_not h.pe, sndt_not h.sd⟩
theorem w_and (ha : TD X C E a tt mt) (hb : WD X C E (.BoolOp .And (b :: es) pos) tu mu') : WD X C E (.BoolOp .And (a :: b :: es) pos) (tAnd tt tu) (mtAnd mt mu') := ⟨pw_and ha.pe hb.pe, sndt_and ha.sd hb.sd⟩
theorem w_or (ha : TD X C E a tt mt) (hb : WD X C E (.BoolOp .Or (b :: es) pos) tu mu') : WD X C E (.BoolOp .Or (a :: b :: es) pos) (tOr tt tu) (mtOr mt mu') := ⟨pw_or ha.pe hb.pe, sndt_or ha.sd hb.sd⟩
theorem w_and1 (ha : TD X C E a tt mt) : WD X C E (.BoolOp .And [a] pos) tt mt := ⟨pw_and1 ha.pe, ha.sd⟩
theorem w_or1 (ha : TD X C E a tt mt) : WD X C E (.BoolOp .Or [a] pos) tt mt := ⟨pw_or1 ha.pe, ha.sd⟩
theorem t_w (h : WD X C E e tt mt) : TD X C E e tt mt := ⟨h.pe.pt, h.sd⟩
/-! ### calls -/
theorem d_call {x : Str} {k n : Nat} {run : List PyData → R PyData} (F : FnI X.prog X.w X.K X.mg X.base C k x n run) (hr : Room k X.A) (tk : Takes X (WW E)) (hg : Gl X x) (ha : AD X C E (e :: es) taa ma)
    (hdb : (x == ("__debug__" : Str)) = false := by decide) (he : starEach (e :: es) X.env = (false, eval e X.env) :: starEach es X.env := by rfl) (hpl : (backTo pos (starEach es X.env)).any (·.1) = false := by rfl) :
    ED X C E (.Call (.Name x p) (e :: es) [] pos) (tCallS (spP X.K C n run) (fun _ => E) taa) (mCall n run ma) := by
  obtain ⟨f, fd, ps, G, hm, hk, hb⟩ := F.ex
  exact ⟨pe_callS G hr hg hm hk hb (fun σ => passAt tk σ) ha.pe hdb he hpl, snd_call ha.sd⟩
theorem d_cb {x : Str} {id : String} {r : List V → Hp → VK → Prop} {op : List PyData → R PyData} (hc : CallR X (.builtin id) r) (hs : CaS X.K C E r op) (hg : Gl X x) (hm : X.mg x = none) (hv : bootBuiltins x = some (.builtin id)) (ha : AD X C E (e :: es) taa ma) (hn : x ≠ "__name__" := by decide) (hdb : (x == ("__debug__" : Str)) = false := by decide)
    (he : starEach (e :: es) X.env = (false, eval e X.env) :: starEach es X.env := by rfl) (hpl : (backTo pos (starEach es X.env)).any (·.1) = false := by rfl) : ED X C E (.Call (.Name x p) (e :: es) [] pos) (tCB r taa) (mCa op ma) := ⟨pe_callB hc hg hm hv ha.pe hn hdb he hpl, snd_cb hs ha.sd⟩
theorem d_ct {x : Str} {id : String} {r : List V → Hp → VK → Prop} {op : List PyData → R PyData} (hc : CallR X (.type id) r) (hs : CaS X.K C E r op) (hg : Gl X x) (hm : X.mg x = none) (hv : bootBuiltins x = some (.type id)) (ha : AD X C E (e :: es) taa ma) (hn : x ≠ "__name__" := by decide) (hdb : (x == ("__debug__" : Str)) = false := by decide)
    (he : starEach (e :: es) X.env = (false, eval e X.env) :: starEach es X.env := by rfl) (hpl : (backTo pos (starEach es X.env)).any (·.1) = false := by rfl) : ED X C E (.Call (.Name x p) (e :: es) [] pos) (tCB r taa) (mCa op ma) := ⟨pe_callTy hc hg hm hv ha.pe hn hdb he hpl, snd_cb hs ha.sd⟩
theorem d_cf {x : Str} {id : String} {r : List V → Hp → VK → Prop} {op : List PyData → R PyData} (hc : CallR X (.builtin id) r) (hs : CaS X.K C E r op) (hg : Gl X x) (hm : X.mg x = some (.builtin id)) (ha : AD X C E (e :: es) taa ma) (hdb : (x == ("__debug__" : Str)) = false := by decide)
    (he : starEach (e :: es) X.env = (false, eval e X.env) :: starEach es X.env := by rfl) (hpl : (backTo pos (starEach es X.env)).any (·.1) = false := by rfl) : ED X C E (.Call (.Name x p) (e :: es) [] pos) (tCB r taa) (mCa op ma) := ⟨pe_callBfun hc hg hm ha.pe hdb he hpl, snd_cb hs ha.sd⟩
/-! ### statements -/
variable {st : Stmt} {sts sts' : List Stmt} {ts tsu : TS} {ms mv : MS}
theorem b_nil : BD X C E [] tNext mNext := ⟨pss_nil, snds_next⟩
theorem b_cons (h1 : SD X C E st ts ms) (h2 : BD X C E sts tsu mv) : BD X C E (st :: sts) (tSeq ts tsu) (mSeq ms mv) := ⟨pss_cons h1.pe h2.pe, snds_seq h1.sd h2.sd⟩
theorem b_one (h1 : SD X C E st ts ms) : BD X C E [st] ts ms := ⟨pss_one h1.pe, h1.sd⟩
theorem s_if (hc : TD X C E c tt mt) (ha : BD X C E sts ts ms) (hb : BD X C E sts' tsu mv) : SD X C E (.If c sts sts' pos) (tIfS tt ts tsu) (mIfS mt ms mv) := ⟨ps_if hc.pe ha.pe hb.pe, snds_if hc.sd ha.sd hb.sd⟩
theorem s_ret (h : ED X C E e te f) : SD X C E (.Return (some e) pos) (tRet te) (mRet f) := ⟨ps_ret h.pe, snds_ret h.sd⟩
theorem s_expr (h : ED X C E e te f) (hs : swapsWith e none pos.line X.env = pure false := by rfl) : SD X C E (.Expr e pos) (tDrop te) (mDrop f) := ⟨ps_expr h.pe hs, snds_drop h.sd⟩
theorem s_pass : SD X C E (.Pass pos) tNext mNext := ⟨ps_pass, snds_next⟩
theorem s_break : SD X C E (.Break pos) tBreak mBreak := ⟨ps_break, snds_break⟩
theorem s_continue : SD X C E (.Continue pos) tCont mCont := ⟨ps_continue, snds_cont⟩
theorem g_name (i : Nat) {x : Str} (hN : X.N.Nodup) (hi : X.N[i]? = some x := by rfl) (hx : Loc X.env.scope x := by first | exact Or.inl rfl | exact Or.inr rfl) (hf : X.fn x = true ∨ X.env.scope.names.lookup x = some .local := by first | exact .inl rfl | exact .inr rfl | assumption) : GD X C (.Name x pos) (gName i) (bName i) [i] := ⟨pg_name hN hi hx hf, sndg_name⟩
theorem g_nil : GDs X C [] gNil bNil [] := ⟨pgs_nil, sndgs_nil⟩
theorem g_cons {gg : TG} {gs : TGs} {bb : Bi} {bs : BiA} {is js : List Nat} (h1 : GD X C e gg bb is) (h2 : GDs X C es gs bs js)
    (hs : (assignEach (e :: es) X.env).map (·.2) = assign e X.env :: (assignEach es X.env).map (·.2) := by rfl) : GDs X C (e :: es) (gCons gg gs) (bCons bb bs) (is ++ js) := ⟨pgs_cons h1.pe h2.pe hs, sndgs_cons h1.sd h2.sd⟩
theorem g_tup {k n : Nat} {gs : TGs} {bs : BiA} {is : List Nat} (hc : X.calm = true) (h : GDs X C es gs bs is)
    (hn : (assignEach es X.env).length = n := by rfl) (hst : (assignEach es X.env).findIdx? (·.1) = none := by rfl) : GD X C (.Tuple es k pos) (gTup X.K n gs) (bTup n bs) is := ⟨pg_tup hc h.pe hn hst, sndg_tup h.sd⟩
theorem s_asg {tg : Expr} {gg : TG} {bb : Bi} {is : List Nat} (he : ED X C E e te f) (hg : GD X C tg gg bb is) (hs : swapsWithSole [tg] e pos.line X.env = pure false := by rfl) (hw : swappedStores [tg] e X.env = pure none := by rfl)
    (h1 : (assignEach [tg] X.env).map (·.2) = [assign tg X.env] := by rfl) : SD X C E (.Assign [tg] e pos) (tAsg te gg) (mAsg bb f) := ⟨ps_asg he.pe hg.pe hs hw h1, snds_asg he.sd hg.sd⟩
theorem s_par (i j : Nat) {x y : Str} {px py pt : Pos} {kt k2 pt2} (hc : X.calm = true) (hN : X.N.Nodup) (ha : AD X C E [a, b] taa ma) (hi : X.N[i]? = some x := by rfl) (hj : X.N[j]? = some y := by rfl) (hij : i ≠ j := by decide)
    (hx : X.env.scope.names.lookup x = some .local := by rfl) (hy : X.env.scope.names.lookup y = some .local := by rfl)
    (hw : swappedStores [.Tuple [.Name x px, .Name y py] kt pt] (.Tuple [a, b] k2 pt2) X.env = pure (some [x, y]) := by rfl)
    (hs : swapsWithSole [.Tuple [.Name x px, .Name y py] kt pt] (.Tuple [a, b] k2 pt2) pos.line X.env = pure false := by rfl) :
    SD X C E (.Assign [.Tuple [.Name x px, .Name y py] kt pt] (.Tuple [a, b] k2 pt2) pos) (tPar i j taa) (mPar i j ma) := ⟨ps_par hc hN hi hj hij hx hy ha.pe hw hs, snds_par ha.sd⟩
theorem i_seq {tg : Expr} (h : ED X C E e te f) : ID X C E tg e (iSeq X.K te) (miSeq f) := ⟨pi_seq h.pe, sndi_seq h.sd⟩
theorem i_rg1 {tg : Expr} (hg : Gl X "range") (hm : X.mg "range" = none) (ha : AD X C E [a] taa ma) (hs : starEach [a] X.env = [(false, eval a X.env)] := by rfl) : ID X C E tg (.Call (.Name "range" p) [a] [] pos) (iRng1 taa) (miR rg1 ma) := ⟨pi_range1 hg hm ha.pe hs, sndi_rg1 ha.sd⟩
theorem i_rg2 {tg : Expr} (hg : Gl X "range") (hm : X.mg "range" = none) (ha : AD X C E [a, b] taa ma) (hs : starEach [a, b] X.env = [(false, eval a X.env), (false, eval b X.env)] := by rfl) (hs2 : starEach [b] X.env = [(false, eval b X.env)] := by rfl) :
    ID X C E tg (.Call (.Name "range" p) [a, b] [] pos) (iRng2 taa) (miR rg2 ma) := ⟨pi_range2 hg hm ha.pe hs hs2, sndi_rg2 ha.sd⟩
theorem s_for {tg iter : Expr} {wi : TI} {gg : TG} {bb : Bi} {is : List Nat} (hp : PassesOwn (model X.prog X.w) X.A X.env X.xe) (hc : X.calm = true) (hi : ID X C E tg iter wi ma) (hg : GD X C tg gg bb is) (hb : BD X C E sts ts ms)
    (hs : ∀ x, foldedSetIterable iter X.env x = pure x := by intro _; rfl) : SD X C E (.For tg iter sts [] pos) (tFor wi gg ts) (mFor ma bb ms) := ⟨ps_for hp hc hi.pe hg.pe hb.pe hs, snds_for hi.sd hg.sd hb.sd⟩
theorem s_while (n : Nat) (hp : PassesOwn (model X.prog X.w) X.A X.env X.xe) (hc : TD X C E c tt mt) (hb : BD X C E sts ts ms) : SD X C E (.While c sts [] pos) (tWhile tt ts) (mWhile n mt ms) := ⟨ps_while hp hc.pe hb.pe, snds_while hc.sd hb.sd⟩
theorem s_rai {c : Nat} {a : Addr} {x m : Str} {j : Nat} {p2 pos' : Pos} {bm : List Value} (hc : X.calm = true) (tk : Takes X (WW E)) (q : PySem.W.excIn X.K a bm "ValueError.__new__" = true) (F : ExcBaseFacts "ValueError" "ValueError.__new__" "ValueError.__init__" bm) (gC : X.mg x = some (.ref a)) (kC : PySem.W.keepIn X.K (.ref a) = true) (r : Raises X (.ref a)) (hg : Gl X x) (eC : C.cl c = .ref a)
    (hdb : (x == ("__debug__" : Str)) = false := by decide) : SD X C E (.Raise (some (.Call (.Name x p) [.Constant (.str m) j p2] [] pos)) none pos') (fun _ σ H => (fun _ H Q => Q (.ref a) none H : L2.St → Hp → XK → Prop) σ H fun cls d H' => E cls d H') (mRai c) := ⟨ps_raise hc tk (pmk_own F q gC kC r hg hdb), snds_rai eC⟩
/-! ### comprehensions -/
theorem d_lc {tg iter elt : Expr} {scope : Scope} {own : List (Str × Nat)} {vs : List Nat} {wi : TI} {gg : TG} {bb : Bi} {is : List Nat} (hc : X.calm = true) (hN : X.N.Nodup) (ok : BlkOk X.N X.env.scope scope own) (hi : ID X C E tg iter wi ma)
    (hg : ∀ (s : Shared) (H : Hp) (B : Addr) (cl : List (Str × Addr)) (fp : List Addr), GD (X.blk s H scope (compEnvC scope cl B X.env) fp) C tg gg bb is)
    (he : ∀ (s : Shared) (H : Hp) (B : Addr) (cl : List (Str × Addr)) (fp : List Addr), ED (X.blk s H scope (compEnvC scope cl B X.env) fp) C EX0 elt te f) (hvs : own.map (·.2) = vs := by rfl) (his : ∀ i ∈ is, i ∈ vs := by decide) (hs : ∀ x, foldedSetIterable iter X.env x = pure x := by intro _; rfl) :
    ED X C E (.ListComp elt [⟨tg, iter, [], 0⟩] scope pos) (tLc wi gg tYes te vs) (mComp vs ma bb mtYes f) := by
  subst hvs
  exact ⟨pe_lc hc hN hi.pe ok (fun s H B cl fp => (hg s H B cl fp).pe) (fun _ _ _ _ _ => pts_nil) (fun s H B cl fp => (he s H B cl fp).pe) hs, snd_comp hi.sd (hg X.s_0 X.H_0 0 [] []).sd his sndt_yes (he X.s_0 X.H_0 0 [] []).sd⟩
theorem d_lcif {tg iter elt : Expr} {scope : Scope} {own : List (Str × Nat)} {vs : List Nat} {wi : TI} {gg : TG} {bb : Bi} {is : List Nat} (hc : X.calm = true) (hN : X.N.Nodup) (ok : BlkOk X.N X.env.scope scope own) (hi : ID X C E tg iter wi ma)
    (hg : ∀ (s : Shared) (H : Hp) (B : Addr) (cl : List (Str × Addr)) (fp : List Addr), GD (X.blk s H scope (compEnvC scope cl B X.env) fp) C tg gg bb is)
    (ht : ∀ (s : Shared) (H : Hp) (B : Addr) (cl : List (Str × Addr)) (fp : List Addr), TD (X.blk s H scope (compEnvC scope cl B X.env) fp) C EX0 c tt mt)
    (he : ∀ (s : Shared) (H : Hp) (B : Addr) (cl : List (Str × Addr)) (fp : List Addr), ED (X.blk s H scope (compEnvC scope cl B X.env) fp) C EX0 elt te f) (hvs : own.map (·.2) = vs := by rfl) (his : ∀ i ∈ is, i ∈ vs := by decide) (hs : ∀ x, foldedSetIterable iter X.env x = pure x := by intro _; rfl) :
    ED X C E (.ListComp elt [⟨tg, iter, [c], 0⟩] scope pos) (tLc wi gg tt te vs) (mComp vs ma bb mt f) := by
  subst hvs
  exact ⟨pe_lc hc hN hi.pe ok (fun s H B cl fp => (hg s H B cl fp).pe) (fun s H B cl fp => pts_one (ht s H B cl fp).pe) (fun s H B cl fp => (he s H B cl fp).pe) hs, snd_comp hi.sd (hg X.s_0 X.H_0 0 [] []).sd his (ht X.s_0 X.H_0 0 [] []).sd (he X.s_0 X.H_0 0 [] []).sd⟩
end
end LW

namespace LW
open PySem PySem.Spec PyProof.Rows L2
section
variable {K : PySem.W.Frag} {mu : Mu} {G0 H0 G H G' H' : Hp} {env env' : LEnv} {σ σ' : L2.St} {C : Cl} {E : XK} {α β γ δ : Type} {X : Cx}
theorem fn_okD {P : Program} {w : World} {mg : Str → Option Value} {base : Heap} {x qual : Str} {params : Arguments} {body : List Stmt} {scope : Scope} {dvs : List V} {f : Addr} {fd : FuncData} {N ps : List Str} {k : Nat} {ms : MS} (F : FunD K x qual params body scope dvs [] f fd) (S : FnScope N ps scope) (hn : ps.length ≤ N.length)
    (hb : ∀ (cdv : Value) (A : Around) (outer : List PySem.Env) (s : Shared) (H : Hp) (E : XK), Room k (A.deeper (envOfC qual scope s.heap.objs.size f cdv)) →
      ∃ t, BD (cxOf (L2.CX P w) P w K mg base N qual scope f cdv A outer s H E) C E body t ms) : FnOk P w K mg base (L2.CX P w) (k + 1) f fd ps (spP K C ps.length (runS N.length ms)) := by
  refine F.ok S (fun vs H Q E h => h.1) fun cdv A outer s H vs Q E hr h => ?_
  obtain ⟨hl, tb, G, ds, sG, gn, r, p⟩ := h
  obtain ⟨t, ht⟩ := hb cdv A outer s H E hr
  refine ⟨t, ht.pe, ht.sd _ _ _ _ _ _ _ _ (StR.begin sG gn tb r (by omega)) ?_⟩
  have p : PostR K C E G H (outS (ms (startE N.length ds))) Q := p
  cases e : ms (startE N.length ds) with
  | nx e' => rw [e] at p; exact fun σ' G' H' S' _ => p .non G' H' S'.xt .non
  | rt e' d => rw [e] at p; exact fun v σ' G' H' S' _ r' => p v G' H' S'.xt r'
  | rai c => rw [e] at p; exact fun H' fz => p H' fz
  | bk e' => rw [e] at p; exact p.elim
  | ct e' => rw [e] at p; exact p.elim
  | stuck => rw [e] at p; exact p
/-- an own error's class, as the defs that raise it know it -/
structure ExA (K : PySem.W.Frag) (mg : Str → Option Value) (C : Cl) (x : Str) (c : Nat) (a : Addr) : Prop where
  c : C.cl c = .ref a
  g : mg x = some (.ref a)
  k : PySem.W.keepIn K (.ref a) = true
  q : PySem.W.excIn K a He.veBase "ValueError.__new__" = true
  sb : PySem.W.subIn K (.ref a) (.type "BaseException") = some true
  ty : PySem.W.typeIn K (.ref a) = some (.type "type")
theorem ExA.r {X : Cx} {mg : Str → Option Value} {x : Str} {c : Nat} {a : Addr} (e : ExA X.K mg C x c a) : Raises X (.ref a) := raises_own e.sb e.ty
structure ExI (K : PySem.W.Frag) (mg : Str → Option Value) (C : Cl) (x : Str) (c : Nat) : Prop where
  ex : ∃ a, ExA K mg C x c a
/-- a tuple of the module's top -/
structure TupK (K : PySem.W.Frag) (a : Addr) (ds : List PyData) : Prop where
  ex : ∃ vs, (∀ H, SqT K H a vs) ∧ ∀ G, RpA K G vs ds
theorem d_glob {x : Str} {a : Addr} {ds : List PyData} {pos : Pos} (hm : X.mg x = some (.ref a)) (t : TupK X.K a ds) (hg : Gl X x) (hd : (x == ("__debug__" : Str)) = false := by decide) : ED X C E (.Name x pos) (tC (.ref a)) (mC (.tuple ds)) := by
  obtain ⟨vs, h1, h2⟩ := t.ex
  exact ⟨pe_glob hg hm rfl hd, snd_c fun G => .tup (h1 G) (h2 G)⟩
/-! ### a < b < c -/
def mChain (o o' : PyData → PyData → R PyData) (f g h : M) : M := fun env => (f env).bind fun p => (g p.1).bind fun q => (lif q.1 (o p.2 q.2)).bind fun z => match z.2 with
  | .bool true => (h z.1).bind fun u => lif u.1 (o' q.2 u.2)
  | .bool false => .ok (z.1, .bool false)
  | _ => .stuck
theorem snd_chain {r r' : R2} {o o' : PyData → PyData → R PyData} {ta tb tc : TE} {f g h : M} (hr : OpS K C E r o) (hr' : OpS K C E r' o') (ha : Snd K C E ta f) (hb : Snd K C E tb g) (hc : Snd K C E tc h) : Snd K C E (tChain r r' ta tb tc) (mChain o o' f g h) := by
  intro mu G0 H0 env σ G H Q S hh
  refine ha _ _ _ _ _ _ _ _ S (hh.bind fun p x G1 H1 S1 s1 r1 h1 => ?_)
  refine hb _ _ _ _ _ _ _ _ S1 (h1.bind fun q y G2 H2 S2 s2 r2 h2 => ?_)
  refine hr _ _ _ _ _ _ _ _ _ _ _ _ S2 (Rp.mono s2 _ _ r1) r2 (h2.bind fun z v G3 H3 S3 s3 r3 h3 => ?_)
  obtain ⟨e, d⟩ := z
  cases r3 with
  | bl b =>
    refine ⟨b, rfl, ?_⟩
    cases b with
    | false => exact iteF (post_here S3 h3 (.bl _))
    | true =>
      refine iteT (hc _ _ _ _ _ _ _ _ S3 (Post.bind (f := fun u => lif u.1 (o' q.2 u.2)) h3 fun u w G4 H4 S4 s4 r4 h4 => ?_))
      exact hr' _ _ _ _ _ _ _ _ _ _ _ _ S4 (Rp.mono (s3.trans s4) _ _ r2) r4 h4
  | _ => exact h3.elim
theorem d_chain {op op' : CmpOp} {r r' : R2} {o o' : PyData → PyData → R PyData} {a b c : Expr} {ta tb tc : TE} {f g h : M} {pos : Pos} (ho : OpR X (compareOp op) r) (hs : OpS X.K C E r o) (ho' : OpR X (compareOp op') r') (hs' : OpS X.K C E r' o') (ha : ED X C E a ta f) (hb : ED X C E b tb g) (hc : ED X C E c tc h)
    (hm : lastMarks [op, op'] [b, c] = false := by with_unfolding_all rfl) : ED X C E (.Compare a [op, op'] [b, c] pos) (tChain r r' ta tb tc) (mChain o o' f g h) := ⟨pe_chain ho ho' ha.pe hb.pe hc.pe hm, snd_chain hs hs' ha.sd hb.sd hc.sd⟩
theorem t_chain {op op' : CmpOp} {r r' : R2} {o o' : PyData → PyData → R PyData} {a b c : Expr} {ta tb tc : TE} {f g h : M} {pos : Pos} (ho : OpR X (compareOp op) r) (hs : OpS X.K C E r o) (ho' : OpR X (compareOp op') r') (hs' : OpS X.K C E r' o') (ha : ED X C E a ta f) (hb : ED X C E b tb g) (hc : ED X C E c tc h)
    (hm : lastMarks [op, op'] [b, c] = false := by with_unfolding_all rfl) : TD X C E (.Compare a [op, op'] [b, c] pos) (tTest (tChain r r' ta tb tc)) (mtB (mChain o o' f g h)) := ⟨pt_chain ho ho' ha.pe hb.pe hc.pe hm, sndt_test (snd_chain hs hs' ha.sd hb.sd hc.sd)⟩
/-! ### f(*e) -/
theorem d_callStar {x : Str} {k n : Nat} {run : List PyData → R PyData} {e : Expr} {te : TE} {f : M} {p sp_ pos : Pos} (F : FnI X.prog X.w X.K X.mg X.base C k x n run) (hr : Room k X.A) (tk : Takes X (WW E)) (hg : Gl X x) (he : ED X C E e te f) (hd : (x == ("__debug__" : Str)) = false := by decide)
    (hst : starEach [.Starred e sp_] X.env = [(true, eval e X.env)] := by rfl) : ED X C E (.Call (.Name x p) [.Starred e sp_] [] pos) (fun σ H Q => te σ H fun y H1 => ∃ a xs, y = V.ref a ∧ (SqT X.K H1 a xs ∨ SqL X.K H1 a xs) ∧ spP X.K C n run xs H1 Q E) (mCallStar n run f) := by
  obtain ⟨g, fd, ps, G, hm, hk, hb⟩ := F.ex
  have R1 := G.raw hb .nil
  have R2 : FnR X.prog X.w X.K X.mg X.base (L2.CX X.prog X.w) k g (spP X.K C n run) := R1.imp fun vs H Q E q => by rw [List.append_nil]; exact q
  exact ⟨StX.pe_callS1 R2 hr hk hg hm (passes_call tk fun _ _ _ _ h => h) he.pe hd hst, snd_callStar he.sd⟩
/-! ### texts -/
def cStr : List PyData → R PyData
  | [.int i] => gd (Nat.blt i.natAbs.log2 1920) (.ok (.str (toString i)))
  | _ => .stuck
theorem cas_str : CaS K C E (fun xs H Q => ∃ i : Int, xs = [.int i] ∧ i.natAbs.log2 < 1920 ∧ Q (.str (toString i)) H) cStr := by
  intro mu G0 H0 env σ G H xs ds Q S r h
  cases r with
  | nil => exact h.elim
  | cons r1 r2 =>
    cases r2 with
    | cons _ _ => cases r1 <;> exact h.elim
    | nil =>
      cases r1 <;> first | exact h.elim | skip
      obtain ⟨c, h⟩ := Post.gdL h
      exact ⟨_, rfl, Nat.le_of_ble_eq_true c, post_here S h (.str _)⟩
def mFmt (f : M) : M := fun env => (f env).bind fun p => match p.2 with
  | .int i => gd (Nat.blt i.natAbs.log2 1920) (.ok (p.1, .str (toString i)))
  | .str y => gd (Nat.ble y.length small) (.ok (p.1, .str y))
  | _ => .stuck
theorem snd_fmt {te : TE} {f : M} (h : Snd K C E te f) : Snd K C E (tFmt te) (mFmt f) := by
  intro mu G0 H0 env σ G H Q S hh
  refine h _ _ _ _ _ _ _ _ S (hh.bind fun p x G1 H1 S1 s1 r1 h1 => ?_)
  obtain ⟨e, d⟩ := p
  cases r1 with
  | int i =>
    obtain ⟨c, h1⟩ := Post.gd h1
    exact .inr ⟨i, rfl, Nat.le_of_ble_eq_true c, post_here S1 h1 (.str _)⟩
  | str y =>
    obtain ⟨c, h1⟩ := Post.gd h1
    exact .inl ⟨y, rfl, Nat.le_trans (Nat.le_of_ble_eq_true c) small_le, post_here S1 h1 (.str _)⟩
  | _ => exact h1.elim
theorem d_fmt {e : Expr} {te : TE} {f : M} {pos : Pos} (h : ED X C E e te f) : ED X C E (.FormattedValue e (-1) none pos) (tFmt te) (mFmt f) := ⟨pe_fmt h.pe, snd_fmt h.sd⟩
def joinL : List M → Str → LEnv → RE PyData
  | [], acc, env => .ok (env, .str acc)
  | f :: fs, acc, env => (f env).bind fun p => match p.2 with
    | .str y => gd (Nat.ble (acc ++ y).length small) (joinL fs (acc ++ y) p.1)
    | _ => .stuck
def mJoin (fs : List M) : M := fun env => joinL fs Str.empty env
inductive JD (X : Cx) (C : Cl) (E : XK) : List Expr → List TE → List M → Prop
  | nil : JD X C E [] [] []
  | cons {e : Expr} {t : TE} {f : M} {es : List Expr} {ts : List TE} {fs : List M} (h : ED X C E e t f) (r : JD X C E es ts fs) : JD X C E (e :: es) (t :: ts) (f :: fs)
theorem JD.pj {es : List Expr} {ts : List TE} {fs : List M} (h : JD X C E es ts fs) : PJ X es ts := by
  induction h with
  | nil => exact .nil
  | cons h _ ih => exact .cons h.pe ih
theorem JD.sd {es : List Expr} {ts : List TE} {fs : List M} (h : JD X C E es ts fs) : ∀ (acc : Str) mu G0 H0 env σ G H (Q : Str → Hp → Prop), StR X.K C mu G0 H0 env σ G H → Post (fun G v d => Rp X.K G v d) X.K C E mu G0 H0 σ G (joinL fs acc env) (fun v H => ∃ z, v = .str z ∧ Q z H) → tJs ts acc σ H Q := by
  induction h with
  | nil =>
    intro acc mu G0 H0 env σ G H Q S h
    obtain ⟨z, e, q⟩ := h (.str acc) G H S (.refl _) (.str _)
    cases e
    exact q
  | @cons e t f es ts fs he _ ih =>
    intro acc mu G0 H0 env σ G H Q S h
    refine he.sd _ _ _ _ _ _ _ _ S (Post.bind (Rl1 := RlE X.K) h fun p x G1 H1 S1 s1 r1 h1 => ?_)
    obtain ⟨e1, d⟩ := p
    cases r1 with
    | str y =>
      obtain ⟨c, h1⟩ := Post.gd h1
      exact ⟨y, rfl, Nat.le_trans (Nat.le_of_ble_eq_true c) small_le, ih _ _ _ _ _ _ _ _ _ S1 h1⟩
    | _ => exact h1.elim
theorem d_joined {v1 v2 : Expr} {rest : List Expr} {ts : List TE} {fs : List M} {pos : Pos} (h : JD X C E (v1 :: v2 :: rest) ts fs) : ED X C E (.JoinedStr (v1 :: v2 :: rest) pos) (fun σ H Q => tJs ts Str.empty σ H fun out H1 => Q (.str out) H1) (mJoin fs) :=
  ⟨pe_joined h.pj, fun mu G0 H0 env σ G H Q S q => h.sd _ _ _ _ _ _ _ _ _ S (by
    have q : Post (RlE X.K) X.K C E mu G0 H0 σ G (joinL fs Str.empty env) Q := q
    cases e : joinL fs Str.empty env with
    | rai c => rw [e] at q; exact q
    | stuck => rw [e] at q; exact q
    | ok p =>
      rw [e] at q
      intro v G' H' S' s' r
      have q1 := q v G' H' S' s' r
      -- the answer is a text
      have txt : ∀ (fs : List M) (acc : Str) (env : LEnv) p, joinL fs acc env = .ok p → ∃ z, p.2 = PyData.str z := by
        intro fs
        induction fs with
        | nil => intro acc env p h; cases h; exact ⟨_, rfl⟩
        | cons f fs ih =>
          intro acc env p h
          have h : ((f env).bind fun p => match p.2 with
            | .str y => gd (Nat.ble (acc ++ y).length small) (joinL fs (acc ++ y) p.1)
            | _ => .stuck) = R.ok p := h
          cases ef : f env with
          | rai c => rw [ef] at h; cases h
          | stuck => rw [ef] at h; cases h
          | ok u =>
            rw [ef] at h
            obtain ⟨u1, u2⟩ := u
            cases u2 with
            | str y =>
              have h : gd (Nat.ble (acc ++ y).length small) (joinL fs (acc ++ y) u1) = R.ok p := h
              cases c : Nat.ble (acc ++ y).length small with
              | true => rw [c] at h; exact ih _ _ _ h
              | false => rw [c] at h; cases h
            | _ => cases h
      obtain ⟨z, ez⟩ := txt fs _ _ p e
      have r : Rp X.K G' v p.2 := r
      rw [ez] at r
      cases r
      exact ⟨z, rfl, q1⟩)⟩
abbrev j_nil : JD X C E [] [] [] := .nil
end
theorem j_cons {X : Cx} {C : Cl} {E : XK} {e : Expr} {t : TE} {f : M} {es : List Expr} {ts : List TE} {fs : List M} (h : ED X C E e t f) (r : JD X C E es ts fs) : JD X C E (e :: es) (t :: ts) (f :: fs) := .cons h r
end LW

namespace LW
open PySem PySem.Spec PyProof.Rows L2
section
variable {K : PySem.W.Frag} {mu : Mu} {G0 H0 G H G' H' : Hp} {env env' : LEnv} {σ σ' : L2.St} {C : Cl} {E : XK} {α β γ δ : Type} {X : Cx}
/-! ### lists of the def's own, by slots -/
/-- the list of slot i has changed, more objects have come -/
theorem StR.own_to (S : StR K C mu G0 H0 env σ G H) {i : Nat} {m : Bool} {cs cs' : List PyData} {p : Addr} {ws' : List V} (hi : env[i]? = some (some (.ow m cs))) (hs : σ[i]? = some (some (.ref p)))
    (hg : Same G G') (hG : Same G' H') (hk : Fz C.T (fun a => a = p) H H') (hn : ∀ a o, G' a = some o → G a = some o ∨ (Nw H a ∧ nt o)) (hp : H' p = some (.lst ws')) (hr : RpA K G' ws' cs') : StR K C mu G0 H0 (env.set i (some (.ow m cs'))) σ G' H' := by
  obtain ⟨p', vs, h1, h2, h3, h4, h5⟩ := S.ol i m cs hi
  rw [hs] at h1
  cases h1
  have hil : i < env.length := (List.getElem?_eq_some_iff.mp hi).1
  have noG : ∀ b o, nt o → H b = some o → G b = none → G' b = none := fun b o n e g => by
    cases q : G' b with
    | none => rfl
    | some u =>
      rcases hn b u q with z | z
      · rw [g] at z; cases z
      · exact (z.1 _ n e).elim
  exact {
    sub := hG
    ng := fun a o e => by
      rcases hn a o e with z | z
      · exact S.ng a o z
      · exact z.2
    g0 := S.g0.trans hg
    fz := ⟨fun b o mb n e => hk.k b o (fun z => by
      subst z
      cases m with
      | true => exact mb (mu.sub _ h5)
      | false =>
        rcases h5 with h5 | h5
        · exact mb h5
        · exact h5 _ n e) n (S.fz.k b o mb n e), hk.tb⟩
    new := fun a o e => by
      rcases hn a o e with z | z
      · exact S.new a o z
      · exact .inr ⟨S.none0 z.1, z.2⟩
    mh := fun a ma => by
      by_cases z : a = p
      · subst z; exact ⟨_, hp⟩
      · obtain ⟨o, e⟩ := S.mh a ma; exact ⟨o, hk.k a _ z nt_lst e⟩
    len := by rw [List.length_set]; exact S.len
    sh := fun j d e => by
      rw [get_set] at e
      by_cases z : i = j
      · subst z; rw [if_pos rfl, if_pos hil] at e; cases e
      · rw [if_neg z] at e
        obtain ⟨v, e1, e2⟩ := S.sh j d e
        exact ⟨v, e1, Rp.mono hg _ _ e2⟩
    ol := fun j m' ds e => by
      rw [get_set] at e
      by_cases z : i = j
      · subst z
        rw [if_pos rfl, if_pos hil] at e
        cases e
        exact ⟨p, ws', hs, hp, hr, noG p _ nt_lst h2 h4, h5⟩
      · rw [if_neg z] at e
        obtain ⟨q, us, e1, e2, e3, e4, e5⟩ := S.ol j m' ds e
        have nq : q ≠ p := fun y => z (S.ow i j p ⟨_, _, hi⟩ ⟨_, _, e⟩ hs (by rw [e1, y]))
        exact ⟨q, us, e1, hk.k q _ nq nt_lst e2, RpA.mono hg _ _ e3, noG q _ nt_lst e2 e4, e5⟩
    ow := fun j k q oj ok a b => by
      have up : ∀ j, Own (env.set i (some (.ow m cs'))) j → Own env j := fun j ⟨m', ds, e⟩ => by
        rw [get_set] at e
        by_cases z : i = j
        · subst z; exact ⟨_, _, hi⟩
        · rw [if_neg z] at e; exact ⟨_, _, e⟩
      exact S.ow j k q (up j oj) (up k ok) a b }
def mIxV (i : Nat) (g : M) : M := fun env => match nth env i with
  | some (some _) => (g env).bind fun q => match nth q.1 i with
    | some (some (.sh d)) => lif q.1 (iIx d q.2)
    | some (some (.ow _ ds)) => (match q.2 with
      | .int k => lif q.1 (ixD k ds)
      | _ => .stuck)
    | _ => .stuck
  | _ => .stuck
theorem StR.some_at (S : StR K C mu G0 H0 env σ G H) {i : Nat} {s : Sl} (h : env[i]? = some (some s)) : ∃ v, σ[i]? = some (some v) := by
  cases s with
  | sh d => obtain ⟨v, e, _⟩ := S.sh i d h; exact ⟨v, e⟩
  | ow m ds => obtain ⟨p, vs, e, _⟩ := S.ol i m ds h; exact ⟨_, e⟩
theorem ixD_rai {i : Int} {ds : List PyData} {c : Nat} : ixD i ds ≠ .rai c := by
  intro e
  unfold ixD at e
  split at e
  · split at e <;> cases e
  · cases hb : Nat.blt _ ds.length <;> rw [hb] at e
    · cases e
    · simp only [cond_true] at e
      split at e <;> cases e
theorem snd_ixV {i : Nat} {tb : TE} {g : M} (hb : Snd K C E tb g) : Snd K C E (tOp (rIx K) (tVar i) tb) (mIxV i g) := by
  intro mu G0 H0 env σ G H Q S h
  unfold mIxV at h
  rw [nth_eq] at h
  cases e0 : env[i]? with
  | none => rw [e0] at h; exact h.elim
  | some o =>
    cases o with
    | none => rw [e0] at h; exact h.elim
    | some s =>
      rw [e0] at h
      obtain ⟨v, hv⟩ := S.some_at e0
      refine ⟨v, hv, hb _ _ _ _ _ _ _ _ S (Post.bind (Rl1 := RlE K) h fun q y G2 H2 S2 s2 r2 h2 => ?_)⟩
      have h2 : Post (RlE K) K C E mu G0 H0 σ G2 (match nth q.1 i with
        | some (some (.sh d)) => lif q.1 (iIx d q.2)
        | some (some (.ow _ ds)) => (match q.2 with
          | .int k => lif q.1 (ixD k ds)
          | _ => .stuck)
        | _ => .stuck) Q := h2
      rw [nth_eq] at h2
      cases e1 : q.1[i]? with
      | none => rw [e1] at h2; exact h2.elim
      | some o =>
        cases o with
        | none => rw [e1] at h2; exact h2.elim
        | some s1 =>
          rw [e1] at h2
          cases s1 with
          | sh d =>
            obtain ⟨v', hv', rv⟩ := S2.sh i d e1
            rw [hv] at hv'
            cases hv'
            exact ops_ix _ _ _ _ _ _ _ _ _ _ _ _ S2 rv r2 h2
          | ow m ds =>
            obtain ⟨p, ws, e2, e3, e4, _⟩ := S2.ol i m ds e1
            rw [hv] at e2
            cases e2
            obtain ⟨e', dq⟩ := q
            cases r2 with
            | int k =>
              have h2 : Post (RlE K) K C E mu G0 H0 σ G2 (lif e' (ixD k ds)) Q := h2
              cases e : ixD k ds with
              | ok d =>
                rw [e] at h2
                obtain ⟨v, a1, a2⟩ := ixD_at e4 e
                exact .inl ⟨_, _, _, v, rfl, rfl, SqL.of e3, a1, post_here S2 h2 a2⟩
              | rai c => exact (ixD_rai e).elim
              | stuck => rw [e] at h2; exact h2.elim
            | _ => exact h2.elim
theorem d_ixV (i : Nat) {x : Str} {b : Expr} {tb : TE} {g : M} {p pos : Pos} (hb : ED X C E b tb g) (hN : X.N[i]? = some x := by rfl) (hv : Vis X.env.scope x := by first | exact Or.inl rfl | exact Or.inr (Or.inl rfl) | exact Or.inr (Or.inr rfl)) (hd : (x == ("__debug__" : Str)) = false := by decide)
    (hcd : (x == ("__classdict__" : Str)) = false := by decide) (hs : PlainIx b := by exact fun _ _ => rfl) : ED X C E (.Subscript (.Name x p) b pos) (tOp (rIx X.K) (tVar i) tb) (mIxV i g) := ⟨pe_ix ix_seq (pe_var hN hv hd hcd) hb.pe hs, snd_ixV hb.sd⟩
/-- xs[k] = e, xs a list of the def's own in slot i -/
def setAt (i : Nat) (e : LEnv) (k : PyData) (v : PyData) : RS := match nth e i, k with
  | some (some (.ow m ds)), .int (.ofNat k) => (match Nat.blt k ds.length with
    | true => .nx (e.set i (some (.ow m (ds.set k v))))
    | false => .stuck)
  | _, _ => .stuck
def mSetV (i : Nat) (fi fe : M) : MS := fun env => bindS (fe env) fun p => bindS (match nth p.1 i with
  | some (some (.ow _ _)) => fi p.1
  | _ => .stuck) fun q => setAt i q.1 q.2 p.2
theorem snds_setV {i : Nat} {te ti : TE} {fe fi : M} (he : Snd K C E te fe) (hi : Snd K C E ti fi) : SndS K C E (tAsg te (gSub (tVar i) ti rSetL)) (mSetV i fi fe) := by
  intro mu G0 H0 env σ G H D S h
  refine he _ _ _ _ _ _ _ _ S (PostS.bind (Rl := RlE K) h fun p x G1 H1 S1 s1 r1 h1 => ?_)
  cases e1 : p.1[i]? with
  | none =>
    have h1 : PostS K C E mu G0 H0 G1 (bindS (match nth p.1 i with | some (some (.ow _ _)) => fi p.1 | _ => .stuck) _) D := h1
    rw [nth_eq, e1] at h1; exact h1.elim
  | some o =>
    cases o with
    | none =>
      have h1 : PostS K C E mu G0 H0 G1 (bindS (match nth p.1 i with | some (some (.ow _ _)) => fi p.1 | _ => .stuck) _) D := h1
      rw [nth_eq, e1] at h1; exact h1.elim
    | some s =>
      cases s with
      | sh d =>
        have h1 : PostS K C E mu G0 H0 G1 (bindS (match nth p.1 i with | some (some (.ow _ _)) => fi p.1 | _ => .stuck) _) D := h1
        rw [nth_eq, e1] at h1; exact h1.elim
      | ow m ds =>
        obtain ⟨a, ws, f1, f2, f3, f4, f5⟩ := S1.ol i m ds e1
        have h1 : PostS K C E mu G0 H0 G1 (bindS (fi p.1) fun q => setAt i q.1 q.2 p.2) D := by
          have h1 : PostS K C E mu G0 H0 G1 (bindS (match nth p.1 i with | some (some (.ow _ _)) => fi p.1 | _ => .stuck) _) D := h1
          rw [nth_eq, e1] at h1
          exact h1
        refine ⟨.ref a, f1, hi _ _ _ _ _ _ _ _ S1 (PostS.bind (Rl := RlE K) h1 fun q y G2 H2 S2 s2 r2 h2 => ?_)⟩
        obtain ⟨eq, dq⟩ := q
        have h2 : PostS K C E mu G0 H0 G2 (setAt i eq dq p.2) D := h2
        unfold setAt at h2
        rw [nth_eq] at h2
        cases g1 : eq[i]? with
        | none => rw [g1] at h2; exact h2.elim
        | some o =>
          cases o with
          | none => rw [g1] at h2; exact h2.elim
          | some s =>
            cases s with
            | sh d => rw [g1] at h2; exact h2.elim
            | ow m2 ds2 =>
              rw [g1] at h2
              obtain ⟨a2, ws2, k1, k2, k3, k4, k5⟩ := S2.ol i m2 ds2 g1
              rw [f1] at k1
              cases k1
              cases r2 with
              | int kk =>
                cases kk with
                | negSucc _ => exact h2.elim
                | ofNat k =>
                  have h2 : PostS K C E mu G0 H0 G2 (match Nat.blt k ds2.length with
                    | true => .nx (eq.set i (some (.ow m2 (ds2.set k p.2))))
                    | false => .stuck) D := h2
                  cases c : Nat.blt k ds2.length with
                  | false => rw [c] at h2; exact h2.elim
                  | true =>
                    rw [c] at h2
                    have hk : k < ws2.length := by
                      have := Nat.le_of_ble_eq_true c
                      rw [k3.length]
                      omega
                    refine ⟨a, ws2, (k : Int), k, rfl, rfl, k2, ?_, ?_⟩
                    · unfold ixN
                      rw [if_pos (Int.natCast_nonneg k), if_pos (by omega)]
                      rfl
                    · refine h2 σ G2 _ (StR.own_to (ws' := ws2.set k x) S2 g1 f1 (.refl _) (fun b u e => ?_) ⟨fun b o nb _ e => by rw [upd_ne nb]; exact e, tabs_but S2.fz.tb fun b o e n => ?_⟩ (fun _ _ e => .inl e) upd_same (k3.set k (Rp.mono s2 _ _ r1))) (.refl _)
                      · rw [upd_ne (fun z => by rw [z, k4] at e; cases e)]; exact S2.sub _ _ e
                      · rw [upd_ne (fun z => by subst z; rw [k2] at e; cases e; exact n _ rfl)]; exact e
              | _ => exact h2.elim
theorem s_setV (i : Nat) {x : Str} {e b : Expr} {te tb : TE} {fe fb : M} {p p2 pos : Pos} (he : ED X C E e te fe) (hb : ED X C E b tb fb) (hN : X.N[i]? = some x := by rfl) (hv : Vis X.env.scope x := by first | exact Or.inl rfl | exact Or.inr (Or.inl rfl) | exact Or.inr (Or.inr rfl)) (hd : (x == ("__debug__" : Str)) = false := by decide)
    (hcd : (x == ("__classdict__" : Str)) = false := by decide)
    (ha : ∀ v, assign (.Subscript (.Name x p) b p2) X.env v = (do
      let ov ← holding [v] (eval (.Name x p) X.env)
      let iv ← holding [v, ov] (eval b X.env)
      standAt p2
      holding [v, ov, iv] (setItem ov iv v)
      release [v, ov, iv] []) := by intro _; rfl) (hs : swapsWithSole [.Subscript (.Name x p) b p2] e pos.line X.env = pure false := by rfl) (hw : swappedStores [.Subscript (.Name x p) b p2] e X.env = pure none := by rfl)
    (h1 : (assignEach [.Subscript (.Name x p) b p2] X.env).map (·.2) = [assign (.Subscript (.Name x p) b p2) X.env] := by rfl) :
    SD X C E (.Assign [.Subscript (.Name x p) b p2] e pos) (tAsg te (gSub (tVar i) tb rSetL)) (mSetV i fb fe) := ⟨ps_asg he.pe (pg_sub (pe_var hN hv hd hcd) hb.pe set_list ha) hs hw h1, snds_setV he.sd hb.sd⟩
/-! ### defs that change the list handed in first -/
abbrev RunM := List PyData → List PyData → R (List PyData × PyData)
def PostM (K : PySem.W.Frag) (C : Cl) (E : XK) (p : Addr) (G H : Hp) : R (List PyData × PyData) → VK → Prop
  | .ok z, Q => ∀ v G' H' ws', Same G G' → Same G' H' → Fz C.T (fun a => a = p) H H' → (∀ a o, G' a = some o → G a = some o ∨ (Nw H a ∧ nt o)) → H' p = some (.lst ws') → RpA K G' ws' z.1 → Rp K G' v z.2 → Q v H'
  | .rai c, _ => ∀ H', Fz C.T (fun a => a = p) H H' → E (C.cl c) none H'
  | .stuck, _ => False
def spM (K : PySem.W.Frag) (C : Cl) (n : Nat) (run : RunM) : Sp := fun vs H Q E => vs.length = n + 1 ∧ LamX.Tabs C.T H ∧ ∃ G p ws cs vs' ds, vs = .ref p :: vs' ∧ Same G H ∧ (∀ a o, G a = some o → nt o) ∧ G p = none ∧ H p = some (.lst ws) ∧ RpA K G ws cs ∧ RpA K G vs' ds ∧ PostM K C E p G H (run cs ds) Q
def startM (n : Nat) (cs ds : List PyData) : LEnv := some (.ow true cs) :: startE (n - 1) ds
def outT (e : LEnv) (d : PyData) : R (List PyData × PyData) := match e with
  | some (.ow true cs) :: _ => .ok (cs, d)
  | _ => .stuck
def outM : RS → R (List PyData × PyData)
  | .rt e d => outT e d
  | .nx e => outT e .none
  | .rai c => .rai c
  | _ => .stuck
def runM (n : Nat) (ms : MS) : RunM := fun cs ds => outM (ms (startM n cs ds))
def muP (p : Addr) : Mu := ⟨fun a => a = p, fun a => a = p, fun _ h => h⟩
theorem StR.beginM {N : List Str} {x : Str} {p : Addr} {ws vs : List V} {cs ds : List PyData} (s : Same G H) (gn : ∀ a o, G a = some o → nt o) (tb : LamX.Tabs C.T H) (gp : G p = none) (hp : H p = some (.lst ws)) (r : RpA K G vs ds) (rc : RpA K G ws cs) (hn : vs.length ≤ N.length) : StR K C (muP p) G H (startM (x :: N).length cs ds) (L2.start (x :: N) (.ref p :: vs)) G H := by
  have es : L2.start (x :: N) (.ref p :: vs) = some (.ref p) :: L2.start N vs := by
    unfold L2.start
    simp
  rw [es]
  have B := StR.begin (K := K) (C := C) (N := N) s gn tb r hn
  exact {
    sub := s
    ng := gn
    g0 := .refl _
    fz := .refl tb
    new := fun _ _ e => .inl e
    mh := fun a m => by
      have m : a = p := m
      subst m; exact ⟨_, hp⟩
    len := by
      show (startE N.length ds).length + 1 = (L2.start N vs).length + 1
      rw [B.len]
    sh := fun i d e => by
      cases i with
      | zero => cases e
      | succ i => exact B.sh i d e
    ol := fun i m ds' e => by
      cases i with
      | zero => cases e; exact ⟨p, ws, rfl, hp, rc, gp, rfl⟩
      | succ i =>
        obtain ⟨q, us, e1, e2, e3, e4, e5⟩ := B.ol i m ds' e
        exfalso
        have e : (startE N.length ds)[i]? = some (some (.ow m ds')) := e
        rw [startE_get] at e
        split at e
        · cases q : ds[i]? with
          | none => rw [q] at e; cases e
          | some d' => rw [q] at e; cases e
        · split at e <;> cases e
    ow := fun i j q oi oj _ _ => by
      have z : ∀ i, Own (startM (x :: N).length cs ds) i → i = 0 := fun i ⟨m, dd, e⟩ => by
        cases i with
        | zero => rfl
        | succ i =>
          exfalso
          have e : (startE N.length ds)[i]? = some (some (.ow m dd)) := e
          rw [startE_get] at e
          split at e
          · cases q : ds[i]? with
            | none => rw [q] at e; cases e
            | some d' => rw [q] at e; cases e
          · split at e <;> cases e
      rw [z i oi, z j oj] }
theorem fn_okM {P : Program} {w : World} {mg : Str → Option Value} {base : Heap} {x qual y : Str} {params : Arguments} {body : List Stmt} {scope : Scope} {dvs : List V} {f : Addr} {fd : FuncData} {N ps : List Str} {k n : Nat} {ms : MS} (F : FunD K x qual params body scope dvs [] f fd) (S : FnScope (y :: N) ps scope) (hn : n ≤ N.length) (hps : ps.length = n + 1)
    (hb : ∀ (cdv : Value) (A : Around) (outer : List PySem.Env) (s : Shared) (H : Hp) (E : XK), Room k (A.deeper (envOfC qual scope s.heap.objs.size f cdv)) →
      ∃ t, BD (cxOf (L2.CX P w) P w K mg base (y :: N) qual scope f cdv A outer s H E) C E body t ms) : FnOk P w K mg base (L2.CX P w) (k + 1) f fd ps (spM K C n (runM (y :: N).length ms)) := by
  refine F.ok S (fun vs H Q E h => by rw [h.1, hps]) fun cdv A outer s H vs Q E hr h => ?_
  obtain ⟨hl, tb, G, p, ws, cs, vs', ds, rfl, sG, gn, gp, hp, rc, rd, q⟩ := h
  obtain ⟨t, ht⟩ := hb cdv A outer s H E hr
  have hl' : vs'.length = n := by simpa using hl
  refine ⟨t, ht.pe, ht.sd _ _ _ _ _ _ _ _ (StR.beginM (N := N) (x := y) sG gn tb gp hp rd rc (by omega)) ?_⟩
  have q : PostM K C E p G H (outM (ms (startM (y :: N).length cs ds))) Q := q
  have fin : ∀ {e : LEnv} {σ' : L2.St} {G' H' : Hp} {cs' : List PyData} {r : LEnv} {v : V} {d : PyData}, e = some (.ow true cs') :: r → StR K C (muP p) G H e σ' G' H' → PostM K C E p G H (.ok (cs', d)) Q → Rp K G' v d → Q v H' := fun {e σ' G' H' cs' r v d} he S' q r => by
    subst he
    obtain ⟨p', us, e1, e2, e3, e4, e5⟩ := S'.ol 0 true cs' rfl
    have e5 : p' = p := e5
    subst e5
    exact q v G' H' us S'.g0 S'.sub S'.fz S'.new e2 e3 r
  cases e : ms (startM (y :: N).length cs ds) with
  | nx e' =>
    rw [e] at q
    intro σ' G' H' S' _
    have q : PostM K C E p G H (outT e' .none) Q := q
    unfold outT at q
    split at q
    · exact fin rfl S' q .non
    · exact q.elim
  | rt e' d =>
    rw [e] at q
    intro v σ' G' H' S' _ r'
    have q : PostM K C E p G H (outT e' d) Q := q
    unfold outT at q
    split at q
    · exact fin rfl S' q r'
    · exact q.elim
  | rai c => rw [e] at q; exact fun H' fz => q H' fz
  | bk e' => rw [e] at q; exact q.elim
  | ct e' => rw [e] at q; exact q.elim
  | stuck => rw [e] at q; exact q
structure FnM (P : Program) (w : World) (K : PySem.W.Frag) (mg : Str → Option Value) (base : Heap) (C : Cl) (k : Nat) (x : Str) (n : Nat) (run : RunM) : Prop where
  ex : ∃ (f : Addr) (fd : FuncData) (ps : List Str), FnOk P w K mg base (L2.CX P w) k f fd ps (spM K C n run) ∧ mg x = some (.ref f) ∧ PySem.W.keepIn K (.ref f) = true ∧ Binds K fd ps []
theorem spM.imp {n : Nat} {run run' : RunM} (h : ∀ cs ds, run' cs ds ≠ .stuck → run cs ds = run' cs ds) {vs : List V} {H : Hp} {Q : VK} {E : XK} (q : spM K C n run' vs H Q E) : spM K C n run vs H Q E := by
  obtain ⟨hl, tb, G, p, ws, cs, vs', ds, e, s, gn, gp, hp, rc, rd, q⟩ := q
  refine ⟨hl, tb, G, p, ws, cs, vs', ds, e, s, gn, gp, hp, rc, rd, ?_⟩
  rw [h cs ds fun z => by rw [z] at q; exact q]
  exact q
theorem FnM.imp {P : Program} {w : World} {mg : Str → Option Value} {base : Heap} {k n : Nat} {x : Str} {run run' : RunM} (F : FnM P w K mg base C k x n run) (h : ∀ cs ds, run' cs ds ≠ .stuck → run cs ds = run' cs ds) : FnM P w K mg base C k x n run' := by
  obtain ⟨f, fd, ps, G, a, b, c⟩ := F.ex
  exact ⟨f, fd, ps, G.imp fun vs H Q E q => spM.imp h q, a, b, c⟩
def mCallM (n : Nat) (run : RunM) (i : Nat) (g : MA) : M := fun env => match nth env i with
  | some (some (.ow _ _)) => (g env).bind fun q => match nth q.1 i with
    | some (some (.ow m cs)) => gd (Nat.beq q.2.length n) ((run cs q.2).bind fun z => .ok (q.1.set i (some (.ow m z.1)), z.2))
    | _ => .stuck
  | _ => .stuck
theorem snd_callM {n i : Nat} {run : RunM} {ta : TA} {g : MA} (h : SndA K C E ta g) : Snd K C E (tCallS (spM K C n run) (fun _ => E) (tCons (tVar i) ta)) (mCallM n run i g) := by
  intro mu G0 H0 env σ G H Q S hh
  unfold mCallM at hh
  rw [nth_eq] at hh
  cases e0 : env[i]? with
  | none => rw [e0] at hh; exact hh.elim
  | some o =>
    cases o with
    | none => rw [e0] at hh; exact hh.elim
    | some s =>
      cases s with
      | sh d => rw [e0] at hh; exact hh.elim
      | ow m0 cs0 =>
        rw [e0] at hh
        obtain ⟨p, ws0, f1, _⟩ := S.ol i m0 cs0 e0
        refine ⟨.ref p, f1, h _ _ _ _ _ _ _ _ S (Post.bind (Rl1 := RlA K) hh fun q xs G1 H1 S1 s1 r1 h1 => ?_)⟩
        obtain ⟨e, ds⟩ := q
        have h1 : Post (RlE K) K C E mu G0 H0 σ G1 (match nth e i with
          | some (some (.ow m cs)) => gd (Nat.beq ds.length n) ((run cs ds).bind fun z => .ok (e.set i (some (.ow m z.1)), z.2))
          | _ => .stuck) Q := h1
        rw [nth_eq] at h1
        cases e1 : e[i]? with
        | none => rw [e1] at h1; exact h1.elim
        | some o =>
          cases o with
          | none => rw [e1] at h1; exact h1.elim
          | some s =>
            cases s with
            | sh d => rw [e1] at h1; exact h1.elim
            | ow m cs =>
              rw [e1] at h1
              obtain ⟨c, h1⟩ := Post.gd h1
              obtain ⟨p', ws, k1, k2, k3, k4, k5⟩ := S1.ol i m cs e1
              rw [f1] at k1
              cases k1
              have r1 : RpA K G1 xs ds := r1
              refine ⟨by rw [List.length_cons, r1.length, Nat.eq_of_beq_eq_true c], S1.fz.tb, G1, p, ws, cs, xs, ds, rfl, S1.sub, S1.ng, k4, k2, k3, r1, ?_⟩
              cases er : run cs ds with
              | ok z =>
                rw [er] at h1
                exact fun v G' H' ws' a1 a2 a3 a4 a5 a6 a7 => h1 v G' H' (S1.own_to e1 f1 a1 a2 a3 a4 a5 a6) a1 a7
              | rai c' =>
                rw [er] at h1
                exact fun H' a => h1 H' ⟨fun b o mb n e => a.k b o (fun z => by
                  subst z
                  cases m with
                  | true => exact mb (mu.sub _ k5)
                  | false =>
                    rcases k5 with k5 | k5
                    · exact mb k5
                    · exact k5 _ n e) n (S1.fz.k b o mb n e), a.tb⟩
              | stuck => rw [er] at h1; exact h1.elim
theorem d_callM {x y : Str} {k n : Nat} {run : RunM} {es : List Expr} {taa : TA} {ma : MA} {p q pos : Pos} (i : Nat) (F : FnM X.prog X.w X.K X.mg X.base C k x n run) (hr : Room k X.A) (tk : Takes X (WW E)) (hg : Gl X x) (ha : AD X C E es taa ma)
    (hN : X.N[i]? = some y := by rfl) (hv : Vis X.env.scope y := by first | exact Or.inl rfl | exact Or.inr (Or.inl rfl) | exact Or.inr (Or.inr rfl)) (hd : (y == ("__debug__" : Str)) = false := by decide) (hcd : (y == ("__classdict__" : Str)) = false := by decide)
    (hdb : (x == ("__debug__" : Str)) = false := by decide) (hs : starEach (.Name y q :: es) X.env = (false, eval (.Name y q) X.env) :: starEach es X.env := by rfl) (hpl : (backTo pos (starEach es X.env)).any (·.1) = false := by rfl) :
    ED X C E (.Call (.Name x p) (.Name y q :: es) [] pos) (tCallS (spM X.K C n run) (fun _ => E) (tCons (tVar i) taa)) (mCallM n run i ma) := by
  obtain ⟨f, fd, ps, G, hm, hk, hb⟩ := F.ex
  exact ⟨pe_callS G hr hg hm hk hb (fun σ => passAt tk σ) (pa_cons (pe_var hN hv hd hcd) ha.pe hs) hdb hs hpl, snd_callM ha.sd⟩
/-! ### powers -/
def powOk (i j : Int) : Bool := match j with
  | .ofNat n => Nat.ble n 1000 && lowI i
  | _ => false
def iPow : PyData → PyData → R PyData
  | .int a, .int b => gd (powOk a b) (.ok (.int (a ^ b.toNat)))
  | _, _ => .stuck
abbrev rPowI : R2 := rI CPow fun i j => .int (i ^ j.toNat)
theorem ops_powI : OpS K C E rPowI iPow := by
  intro mu G0 H0 env σ G H x y dx dy Q S rx ry h
  cases rx <;> cases ry <;> first | exact h.elim | skip
  rename_i a b
  obtain ⟨c, h⟩ := Post.gdL h
  refine ⟨_, _, rfl, rfl, ?_, post_here S h (.int _)⟩
  cases b with
  | negSucc n => cases c
  | ofNat n =>
    have c : (Nat.ble n 1000 && lowI a) = true := c
    rw [Bool.and_eq_true] at c
    have h1 := Nat.le_of_ble_eq_true c.1
    have h2 := lowI_is c.2
    exact ⟨Int.natCast_nonneg n, by show (n : Int) ≤ 1000000; omega, by omega⟩
theorem d_pow {a b : Expr} {ta tb : TE} {f g : M} {pos : Pos} (ha : ED X C E a ta f) (hb : ED X C E b tb g) : ED X C E (.BinOp a .Pow b pos) (tOp rPowI ta tb) (mOp iPow f g) := d_op op_pow ops_powI ha hb
end
end LW

namespace LW
open PySem PySem.Spec PyProof.Rows L2 LamX
/-! ### lambdas that take nothing and capture nothing, kept and called later -/
def LamO (f c' : Addr) (q : Str) (params : Arguments) (body : Expr) (scope : Scope) : HO := .ext fun h => ∃ pm ctv, h.get? f = some (PySem.W.kla_obj "<lambda>" q params body scope [] pm c' ctv)
theorem lamO_ne {f c' : Addr} {q : Str} {params : Arguments} {body : Expr} {scope : Scope} (ps : Array Value) : LamO f c' q params body scope ≠ .tbl ps := fun z => by
  unfold LamO at z; cases z
theorem cloFrom_nil {cells : List (Str × Addr)} : ∀ {l : List (Str × NameKind)}, (∀ y ∈ l, y.2 ≠ .free) → cloFrom cells l [] = []
  | [], _ => rfl
  | (n, k) :: r, h => by
    have hk : (k == NameKind.free) = false := by
      have := h (n, k) List.mem_cons_self
      cases k <;> first | rfl | exact absurd rfl this
    unfold cloFrom
    rw [hk]
    exact cloFrom_nil fun y hy => h y (List.mem_cons_of_mem _ hy)
def tLamV (T : List (Addr × Str)) (q : Str) (params : Arguments) (body : Expr) (scope : Scope) : TE := fun σ H Q => Tabs T H ∧ ∀ f c' H1, ExtN H H1 → Tabs T H1 → H1 f = some (LamO f c' q params body scope) → H1 c' = some (CodeO c' q) → Q (.ref f) H1
section
variable {X : Cx}
theorem pe_lamV {T : List (Addr × Str)} {c P : Addr} {params : Arguments} {body : Expr} {scope : Scope} {pos : Pos} (TB : TabB X.base X.mg c P) (hcode : X.env.code = .ref c) (hm : (P, X.env.qual ++ "<lambda>") ∈ T) (hu : ∀ p ∈ T, p.1 = P → p.2 = X.env.qual ++ "<lambda>")
    (hdef : defaultsOf params X.env = ([], [])) (hfree : ∀ y ∈ scope.names, y.2 ≠ .free) : PE X (.Lambda params body scope pos) (tLamV T (X.env.qual ++ "<lambda>") params body scope) := by
  refine ⟨fun pins s σ H Q I hh => ?_⟩
  obtain ⟨hT, h⟩ := hh
  obtain ⟨ps, hP, ht, ha⟩ := hT _ hm
  have hP : H P = some (.tbl ps) := hP
  refine PySem.W.kla_eval hdef ?_
  have bP : s.heap.BuiltinsAt X.mg P := TB.bm.keeps I.bk
  have hP' := I.hok P _ hP
  have cl := closure_ok (scope := scope) (env := X.env) fun y hy e => absurd e (hfree y hy)
  rw [cloFrom_nil hfree] at cl
  -- the function's object, laid behind all that stands
  have fin : ∀ (h' : Heap) (tk : Tok) (c' : Addr) (ctv : Value) (H1 : Hp), Inv X pins σ H1 { s with heap := h', toks := tk } → ExtN H H1 → Tabs T H1 → H1 c' = some (CodeO c' (X.env.qual ++ "<lambda>")) →
      EP X pins σ Q (.ref h'.objs.size) { s with heap := h'.push (PySem.W.kla_obj "<lambda>" (X.env.qual ++ "<lambda>") params body scope [] ((X.mg "__name__").getD .none) c' ctv), toks := tk } := by
    intro h' tk c' ctv H1 I1 e1 t1 hc
    have nf : H1 h'.objs.size = none := I1.hok.fresh (Nat.le_refl _)
    have I2 := I1.laid (t' := tk) (h' := h'.push (PySem.W.kla_obj "<lambda>" (X.env.qual ++ "<lambda>") params body scope [] ((X.mg "__name__").getD .none) c' ctv)) (a := h'.objs.size) (o := LamO h'.objs.size c' (X.env.qual ++ "<lambda>") params body scope)
      (fun b u e => Heap.get?_push_of_some _ e) (Nat.le_refl _) ⟨⟨_, ctv, Heap.get?_push_size _ rfl⟩, ⟨_, Heap.get?_push_size _ rfl⟩, fun h1 h2 ⟨pm, ct, e⟩ k => ⟨pm, ct, k _ e⟩⟩
    have up : ∀ b o, H1 b = some o → upd H1 h'.objs.size (LamO h'.objs.size c' (X.env.qual ++ "<lambda>") params body scope) b = some o := fun b o e => by rw [upd_ne (ne_of_none e nf)]; exact e
    exact ⟨.ref _, _, I2, rfl, h _ c' _ (e1.trans (.of up)) (t1.ext up) upd_same (up _ _ hc)⟩
  cases hc : codeAmong pos ps.toList with
  | none =>
    refine PySem.W.kla_makeFunction (mg := X.mg) (c := c) (P := P) (ps := ps) cl I.ok.glob (I.mod.glob.keeps I.bk) hcode (TB.code.keeps I.bk) hP' ht hc TB.gP bP fun c' ctv h' tk hx hge _ hrec htb => ?_
    obtain ⟨c2, oc, vs, t, e2, hoc, hd, hv⟩ := hrec
    cases e2
    have nC : H c' = none := I.hok.fresh hge
    have I1 := inv_table (t' := tk) (more := #[rawInt pos.line, rawInt pos.col, .ref c']) I hP (fun b o hb e => hx b o hb e) htb hge ⟨oc, vs, t, hoc, hd, hv⟩
    have hE : ExtN H (upd (upd H P (.tbl (ps ++ #[rawInt pos.line, rawInt pos.col, .ref c']))) c' (CodeO c' (X.env.qual ++ "<lambda>"))) := fun b o e n => by
      rw [upd_ne (ne_of_none e nC)]
      have nb : b ≠ P := fun z => n ps (by rw [z] at e; exact Option.some.inj (e.symm.trans hP))
      rw [upd_ne nb]
      exact e
    have eL : (ps ++ #[rawInt pos.line, rawInt pos.col, .ref c']).toList = ps.toList ++ [rawInt pos.line, rawInt pos.col, .ref c'] := Array.toList_append ..
    refine fin h' tk c' ctv _ I1 hE (fun p hp => ?_) upd_same
    by_cases hb : p.1 = P
    · rw [hu p hp hb, hb]
      refine ⟨_, (upd_ne (ne_of_none hP nC)).trans upd_same, eL ▸ PySem.TriplesOk_snoc _ _ _ _ ht, fun p' cv hcv => ?_⟩
      rw [eL] at hcv
      rcases among_app _ ht hcv with z | z
      · obtain ⟨c0, q1, q2⟩ := ha p' cv z
        exact ⟨c0, q1, hE _ _ q2 codeO_ne⟩
      · exact ⟨c', z, upd_same⟩
    · obtain ⟨ps', a1, a2, a3⟩ := hT p hp
      refine ⟨ps', (upd_ne (ne_of_none a1 nC)).trans ((upd_ne hb).trans a1), a2, fun p' cv hcv => ?_⟩
      obtain ⟨c0, q1, q2⟩ := a3 p' cv hcv
      exact ⟨c0, q1, hE _ _ q2 codeO_ne⟩
  | some cv =>
    obtain ⟨c', e, hco⟩ := ha pos cv hc
    subst e
    exact PySem.W.kla_makeFunctionHit (mg := X.mg) (c := c) (P := P) (ps := ps) cl I.ok.glob (I.mod.glob.keeps I.bk) hcode (TB.code.keeps I.bk) hP' ht hc bP fun ctv h' tk hx _ =>
      fin h' tk c' ctv H (I.kept hx) (.refl H) hT hco
/-- x() of such a lambda in slot i -/
theorem pe_act0 {params : Arguments} {body : Expr} {scope : Scope} {q : Str} {k i : Nat} {a : Str} {E : XK} {t : XK → TE} {p1 p2 : Pos} (S : FnScope [] [] scope)
    (hbind : ∀ pm cv ctv, bindArgs (PySem.W.kla_fn "<lambda>" q params body scope [] pm cv ctv) ⟨[], []⟩ = pure []) (hx : Passes (L2.CX X.prog X.w) X E) (hr : Room (k + 1) X.A)
    (hbody : ∀ (A : Around) (outer : List PySem.Env) (s : Shared) (H : Hp) (E : XK) (f c' : Addr), Room k (A.deeper (envOfC q scope s.heap.objs.size f (.ref c'))) → PE (cxOf (L2.CX X.prog X.w) X.prog X.w X.K X.mg X.base [] q scope f (.ref c') A outer s H E) body (t E))
    (hN : X.N[i]? = some a) (hv : Vis X.env.scope a) (hd : (a == ("__debug__" : Str)) = false := by decide) (hcd : (a == ("__classdict__" : Str)) = false := by decide) :
    PE X (.Call (.Name a p1) [] [] p2) (fun σ H Q => ∃ f c', σ[i]? = some (some (.ref f)) ∧ H f = some (LamO f c' q params body scope) ∧ H c' = some (CodeO c' q) ∧ t E [] H Q) := by
  refine ⟨fun pins s σ H Q I hh => ?_⟩
  obtain ⟨f, c', hs, hf, hc, ht⟩ := hh
  refine wpAny_Call_Name_kw (thn ((pe_var (pos := p1) hN hv hd hcd).run pins s σ H (fun v H1 => v = .ref f ∧ H1 = H) I ⟨_, hs, rfl, rfl⟩) fun u s1 ⟨v, H1, I1, r1, q1⟩ => ?_)
  obtain ⟨ev, eH⟩ := q1
  subst ev
  rw [eH] at I1
  obtain rfl : u = Value.ref f := r1
  obtain ⟨⟨pm, ctv, of1⟩, _, _⟩ := I1.hok f _ hf
  obtain ⟨⟨oc, vs, tk, hoc, hdc, hvc⟩, _, _⟩ := I1.hok c' _ hc
  refine PySem.W.callWith_F0 ⟨_, _, _, _, of1⟩ ?_
  have rc : codeAny (model X.prog X.w) X.A (.call (.ref f) ⟨[], []⟩) (CR (L2.CX X.prog X.w) X.stack X.prog X.w H s1 Q E) s1 := by
    refine PySem.W.kla_callFunE hr.depth of1 rfl S.co S.gen rfl ⟨c', oc, vs, tk, rfl, hoc, hdc, hvc⟩ ?_
    rw [hbind]
    refine wpAny_pure (wpAny_newFunctionEnv_cells S.kind (fun y hy => absurd hy (by simp)) fun env he s2 x => ?_)
    subst he
    refine ⟨I1.nolimit.keeps x.toInCall.keep, ?_⟩
    have J : Inv (cxOf (L2.CX X.prog X.w) X.prog X.w X.K X.mg X.base [] q scope f (.ref c') X.A X.stack s1 H E) [] (L2.start [] []) H s2 := inv_start (ps := []) (us := []) S hr.hd I1.env0 rfl .nil x
    refine PySem.W.kla_codeExpr (wpAny_mono ((hbody X.A X.stack s1 H E f c' (hr.deeper _)).run [] s2 [] H Q J ht) (fun v s' hq => ?_) fun e s' hq => hq)
    obtain ⟨w', H', J', rv, qq⟩ := hq
    exact ⟨w', H', J'.os, J'.bare, J'.base, J'.hok, rv, qq⟩
  refine wpAny_call (codeAny_mono rc fun r s' hq => ?_)
  cases r with
  | error e => exact hx pins σ H s1 e s' I1 hq
  | ok fl =>
    cases fl with
    | ret u => exact I1.after hq
    | next => exact hq.elim
    | brk => exact hq.elim
    | cont => exact hq.elim
end
end LW

namespace LW
open PySem PySem.Spec PyProof.Rows L2 LamX
/-! ### try: return what() / except .. : return '..' -/
def wTold (K : PySem.W.Frag) (Q : VK) : List (Addr × Str) → XK
  | [] => fun _ _ _ => False
  | (a, s) :: r => fun cls d H => ∃ b, PySem.W.exmOne K cls (.ref a) = some b ∧ (b = true → Q (.str s) H) ∧ (b = false → wTold K Q r cls d H)
abbrev hdL (l : List (Addr × Str)) : List (Value × (Addr → Value → Option Addr → TS)) := l.map fun p => (.ref p.1, fun _ _ _ => tRet (tC (.str p.2)))
theorem wTold_many {K : PySem.W.Frag} {D : Ends} {σ : L2.St} {H : Hp} {cls : Value} {d : Option Addr} : ∀ {l : List (Addr × Str)}, wTold K D.rt l cls d H → wMany K (fun _ _ _ _ => False) D (hdL l) cls d σ H
  | [], h => h
  | (a, s) :: r, h => by
    obtain ⟨b, e, y, n⟩ := h
    exact ⟨b, e, fun hb _ _ => y hb, fun hb => wTold_many (n hb)⟩
section
variable {X : Cx}
theorem told_pss {hds : List ExceptHandler} {h₀ : ExceptHandler} {l : List (Addr × Str)} {a : Str} {p1 p2 p3 p8 : Pos} {tact : XK → TE} (hs : X.stack = X.env :: X.outer) (hf : X.env.frame = some X.env.locals) (hh : HdsOk X (h₀ :: hds) (hdL l))
    (act : ∀ (W : WX) (pn : List (Addr × Obj)) (xe : Value → Shared → Prop) (E : XK), Takes (X.tr pn xe) W → (∀ cls d σ' H', E cls d H' → W cls d σ' H') → PE (X.tr pn xe) (.Call (.Name a p1) [] [] p2) (tact E)) :
    PSs X [.Try [.Return (some (.Call (.Name a p1) [] [] p2)) p3] (h₀ :: hds) [] [] p8] (fun D σ H => tact (wTold X.K D.rt l) σ H D.rt) := by
  have h := ps_try_many (X := X) (pos := p8) (Wout := fun _ _ _ _ => False) (tb := fun W D σ H => ∃ E : XK, (∀ cls d σ' H', E cls d H' → W cls d σ' H') ∧ tact E σ H D.rt) hs hf L2.takes0 (fun W pn xe tk _ => (?_ : PSs (X.tr pn xe) [.Return (some (.Call (.Name a p1) [] [] p2)) p3] _)) hh
  · refine pss_one ⟨fun pins s σ H D I q => h.run pins s σ H D I ?_⟩
    exact ⟨_, fun cls d σ' H' w => wTold_many w, q⟩
  · refine ⟨fun pins s σ H D I q => ?_⟩
    obtain ⟨E, hE, q⟩ := q
    exact (pss_one (ps_ret (pos := p3) (act W pn xe E tk hE))).run pins s σ H D I q
/-- .. as the lambda's maker's caller sees it -/
theorem told_gives9 {Ng : List Str} {x a q : Str} {sg : Scope} {g : Addr} {cdg : Value} {l : List (Addr × Str)} {hds : List ExceptHandler} {h₀ : ExceptHandler} {p1 p2 p3 p8 : Pos}
    (hh : ∀ (A : Around) (outer : List PySem.Env) (s : Shared) (H : Hp), HdsOk (cxOf C8.CX0 X.prog X.w X.K X.mg X.base Ng x sg g cdg A outer s H C8.E0).nox (h₀ :: hds) (hdL l)) (h0 : ∀ f : Addr, (L2.start Ng [V.ref f])[0]? = some (some (V.ref f))) :
    GivesTo X Ng x sg g cdg [.Try [.Return (some (.Call (.Name a p1) [] [] p2)) p3] (h₀ :: hds) [] [] p8] a q (fun tl H Q => tl (wTold X.K Q l) H Q) := by
  intro f c' s H Q tl act hc h
  exact ⟨_, told_pss (X := (cxOf C8.CX0 X.prog X.w X.K X.mg X.base Ng x sg g cdg X.A X.stack s H C8.E0).nox) rfl rfl (hh _ _ _ _) (fun W pn xe E tk hW => act W pn xe E p1 p2 tk hW), h0 f, hc, h⟩
/-! ### the def that is told a lambda: its promise for lambdas kept -/
structure LamRun (P : Program) (w : World) (K : PySem.W.Frag) (mg : Str → Option Value) (base : Heap) (k : Nat) (q : Str) (params : Arguments) (body : Expr) (scope : Scope) (t : XK → TE) : Prop where
  sc : FnScope [] [] scope
  bind : ∀ pm cv ctv, bindArgs (PySem.W.kla_fn "<lambda>" q params body scope [] pm cv ctv) ⟨[], []⟩ = pure []
  run : ∀ (A : Around) (outer : List PySem.Env) (s : Shared) (H : Hp) (E : XK) (f c' : Addr), Room k (A.deeper (envOfC q scope s.heap.objs.size f (.ref c'))) → PE (cxOf (L2.CX P w) P w K mg base [] q scope f (.ref c') A outer s H E) body (t E)
def spTold (P : Program) (w : World) (K : PySem.W.Frag) (mg : Str → Option Value) (base : Heap) (k : Nat) (l : List (Addr × Str)) : Sp := fun vs H Q _ => ∃ f c' q params body scope t, vs = [.ref f] ∧ H f = some (LamO f c' q params body scope) ∧ H c' = some (CodeO c' q) ∧ LamRun P w K mg base k q params body scope t ∧ t (wTold K Q l) [] H Q
end
theorem told_ok {P : Program} {w : World} {K : PySem.W.Frag} {mg : Str → Option Value} {base : Heap} {x qual a : Str} {params : Arguments} {scope : Scope} {f : Addr} {fd : FuncData} {k : Nat} {l : List (Addr × Str)} {hds : List ExceptHandler} {h₀ : ExceptHandler} {p1 p2 p3 p8 : Pos} {N : List Str}
    (F : FunD K x qual params [.Try [.Return (some (.Call (.Name a p1) [] [] p2)) p3] (h₀ :: hds) [] [] p8] scope [] [] f fd) (S : FnScope N [a] scope) (hN : N[0]? = some a) (hv : Vis scope a) (hd : (a == ("__debug__" : Str)) = false) (hcd : (a == ("__classdict__" : Str)) = false)
    (hh : ∀ (cdv : Value) (A : Around) (outer : List PySem.Env) (s : Shared) (H : Hp), HdsOk (cxOf L2.CX0 P w K mg base N qual scope f cdv A outer s H L2.E0).nox (h₀ :: hds) (hdL l)) (h0 : ∀ f : Addr, (L2.start N [V.ref f])[0]? = some (some (V.ref f))) :
    FnOk P w K mg base L2.CX0 (k + 2) f fd [a] (spTold P w K mg base k l) := by
  refine F.ok S (fun vs H Q E h => ?_) fun cdv A outer s H vs Q E hr h => ?_
  · obtain ⟨f, c', q, params, body, scope, t, rfl, _⟩ := h
    rfl
  · obtain ⟨g, c', q, params', body, scope', t, rfl, hf, hc, L, ht⟩ := h
    refine ⟨_, PSs.nox (told_pss (X := (cxOf L2.CX0 P w K mg base N qual scope f cdv A outer s H E).nox) rfl rfl (hh cdv A outer s H) fun W pn xe E tk hW =>
      pe_act0 (i := 0) (t := t) L.sc L.bind (passes_call tk hW) hr L.run hN hv hd hcd), ?_⟩
    exact ⟨g, c', h0 g, hf, hc, ht⟩
end LW

namespace LW
open PySem PySem.Spec PyProof.Rows L2 LamX
section
variable {K : PySem.W.Frag} {mu : Mu} {G0 H0 G H G' H' H1 : Hp} {env env' : LEnv} {σ σ' : L2.St} {C : Cl} {E : XK} {X : Cx}
/-! ### a lambda handed on at once: what it answers, or the word for what it raises -/
theorem same_nt (ng : ∀ a o, G a = some o → nt o) (s : Same G H) (k : ∀ b o, nt o → H b = some o → H1 b = some o) : Same G H1 := fun a o e => k a o (ng a o e) (s a o e)
theorem StR.extN (S : StR K C mu G0 H0 env σ G H) (e : ExtN H H1) (t : Tabs C.T H1) : StR K C mu G0 H0 env σ G H1 :=
  S.ext ⟨.refl _, same_nt S.ng S.sub fun b o n h => e b o h n, ⟨fun b o _ n h => e b o h n, t⟩, fun _ _ h => .inl h⟩
def forget1 : Option Sl → Option Sl
  | some (.sh d) => some (.sh d)
  | _ => none
def forgetOwn (env : LEnv) : LEnv := env.map forget1
theorem forgetOwn_get {i : Nat} {s : Sl} (h : (forgetOwn env)[i]? = some (some s)) : ∃ d, s = .sh d ∧ env[i]? = some (some (.sh d)) := by
  unfold forgetOwn at h
  rw [List.getElem?_map] at h
  cases e : env[i]? with
  | none => rw [e] at h; cases h
  | some o =>
    rw [e] at h
    cases o with
    | none => cases h
    | some s0 =>
      cases s0 with
      | sh d => cases h; exact ⟨d, rfl, rfl⟩
      | ow m ds => cases h
theorem StR.fresh (S : StR K C mu G0 H0 env σ G H) : StR K C mu0 G H (forgetOwn env) σ G H where
  sub := S.sub
  ng := S.ng
  g0 := .refl _
  fz := .refl S.fz.tb
  new := fun _ _ e => .inl e
  mh := fun _ m => m.elim
  len := by unfold forgetOwn; rw [List.length_map]; exact S.len
  sh := fun i d e => by
    obtain ⟨d', e1, e2⟩ := forgetOwn_get e
    cases e1
    exact S.sh i d e2
  ol := fun i m ds e => by
    obtain ⟨d', e1, _⟩ := forgetOwn_get e
    cases e1
  ow := fun i j p ⟨m, ds, e⟩ _ _ _ => by
    obtain ⟨d', e1, _⟩ := forgetOwn_get e
    cases e1
def mTold (nm : Nat → Option Str) (m : M) : M := fun env => match m (forgetOwn env) with
  | .ok p => .ok (env, p.2)
  | .rai c => (match nm c with
    | some s => .ok (env, .str s)
    | none => .stuck)
  | .stuck => .stuck
def ToldL (K : PySem.W.Frag) (C : Cl) (nm : Nat → Option Str) (l : List (Addr × Str)) : Prop := ∀ c s, nm c = some s → ∀ (Q : VK) d H, Q (.str s) H → wTold K Q l (C.cl c) d H
theorem snd_told {t : XK → TE} {m : M} {l : List (Addr × Str)} {nm : Nat → Option Str} (hl : ToldL K C nm l) (h : ∀ E, Snd K C E (t E) m) : Snd K C E (tLam C.T (fun tl H Q => tl (wTold K Q l) H Q) t) (mTold nm m) := by
  intro mu G0 H0 env σ G H Q S hh
  refine ⟨S.fz.tb, fun H1 eN T1 => ?_⟩
  have S1 := S.extN eN T1
  show t (wTold K Q l) σ H1 Q
  refine h _ _ _ _ _ _ _ _ _ S1.fresh ?_
  unfold mTold at hh
  cases em : m (forgetOwn env) with
  | ok p =>
    rw [em] at hh
    exact fun v G' H' S' s r => hh v G' H' (S1.ext S'.xt) s r
  | rai c =>
    rw [em] at hh
    intro H' fz
    cases en : nm c with
    | none => simp only [en] at hh; exact hh.elim
    | some s =>
      simp only [en] at hh
      exact hl c s en _ _ _ (hh (.str s) G H' (S1.ext ⟨.refl _, same_nt S1.ng S1.sub fun b o n e => fz.k b o (fun z => z) n e, fz, fun _ _ h => .inl h⟩) (.refl _) (.str s))
  | stuck => rw [em] at hh; exact hh.elim
theorem d_told {t : XK → TE} {m : M} {l : List (Addr × Str)} {nm : Nat → Option Str} {x a : Str} {g c P : Addr} {k : Nat} {pg : Arguments} {hds : List ExceptHandler} {h₀ : ExceptHandler} {p1 p2 p3 p8 p lpos pos : Pos} {sg : Scope} {fd : FuncData} {Ng : List Str} {params : Arguments} {body : Expr} {scope : Scope}
    (hl : ToldL X.K C nm l) (hg : Gl X x) (hm : X.mg x = some (.ref g)) (F : FunD X.K x x pg [.Try [.Return (some (.Call (.Name a p1) [] [] p2)) p3] (h₀ :: hds) [] [] p8] sg [] [] g fd)
    (hb : ∀ (kV doc pm : Value) (an : Option Addr) (cdv ct : Value) (us : List Value), us.length = [a].length → bindArgs (PySem.W.fnOf x x pg [.Try [.Return (some (.Call (.Name a p1) [] [] p2)) p3] (h₀ :: hds) [] [] p8] sg .none kV doc pm an cdv ct) ⟨us, []⟩ = pure ([a].zip us))
    (Sg : FnScope Ng [a] sg) (hNg : Ng[0]? = some a) (hva : Vis sg a) (h0 : ∀ f : Addr, (L2.start Ng [V.ref f])[0]? = some (some (V.ref f)))
    (hh : ∀ (cdg : Value) (A : Around) (outer : List PySem.Env) (s : Shared) (H : Hp), HdsOk (cxOf C8.CX0 X.prog X.w X.K X.mg X.base Ng x sg g cdg A outer s H C8.E0).nox (h₀ :: hds) (hdL l))
    (TB : TabB X.base X.mg c P) (hcode : X.env.code = .ref c) (hmT : (P, X.env.qual ++ "<lambda>") ∈ C.T) (hu : ∀ p ∈ C.T, p.1 = P → p.2 = X.env.qual ++ "<lambda>") (hr : Room (k + 2) X.A) (L : LamS X.env.scope scope) (hdef : defaultsOf params X.env = ([], []))
    (hbind : ∀ (q : Str) (cl : List (Str × Addr)) (pm cv ctv : Value), bindArgs (PySem.W.kla_fn "<lambda>" q params body scope cl pm cv ctv) ⟨[], []⟩ = pure [])
    (hbody : ∀ (A : Around) (outer : List PySem.Env) (s : Shared) (H : Hp) (E : XK) (f c' : Addr), Room k (A.deeper (lamEnv X scope s.heap.objs.size f c')) → ED (lamCx X A outer s H E scope f c') C E body (t E) m)
    (hro : ∃ A : Around, ∀ (s : Shared) (f c' : Addr), Room k (A.deeper (lamEnv X scope s.heap.objs.size f c')))
    (hdb : (x == ("__debug__" : Str)) = false := by decide) (hd : (a == ("__debug__" : Str)) = false := by decide) (hcd : (a == ("__classdict__" : Str)) = false := by decide) :
    ED X C E (.Call (.Name x p) [.Lambda params body scope lpos] [] pos) (tLam C.T (fun tl H Q => tl (wTold X.K Q l) H Q) t) (mTold nm m) := by
  have b : Binds X.K fd [a] [] := FunD.bindsN F hb
  obtain ⟨oc, od, dV, kV, doc, pm, an, cdv, ct, osl, e, lk, hcd', hD, _⟩ := F.ex
  subst e
  obtain ⟨A, hA⟩ := hro
  refine ⟨pe_lamcall (T := C.T) (TT := fun tl H Q => tl (wTold X.K Q l) H Q) hg hm F.kp lk hcd' b Sg hNg hva (told_gives9 (hh cdv) h0) TB hcode hmT hu hr L hdef hbind (fun A outer s H E f c' r => (hbody A outer s H E f c' r).pe) hdb hd hcd, snd_told hl fun E => ?_⟩
  exact (hbody A [] X.s_0 X.H_0 E 0 0 (hA _ _ _)).sd
end
end LW

namespace LW
open PySem PySem.Spec PyProof.Rows L2 LamX
section
variable {K : PySem.W.Frag} {mu : Mu} {G0 H0 G H G' H' H1 : Hp} {env env' : LEnv} {σ σ' : L2.St} {C : Cl} {E : XK} {X : Cx}
/-! ### + and * of ints, texts, tuples, lists -/
def rAddS : R2 := fun x y H Q => ∃ i j, x = .str i ∧ y = .str j ∧ i.length + j.length ≤ sizeLine ∧ Q (.str (i ++ j)) H
def rAddA (K : PySem.W.Frag) : R2 := fun x y H Q => (rI0 fun i j => .int (i + j)) x y H Q ∨ rAddS x y H Q ∨ rCatT K x y H Q ∨ rCat x y H Q
theorem op_addA : OpR X (binaryOp .Add) (rAddA X.K) := op_add.or (OpR.or (r := rAddS) op_add_str (op_catT.or op_cat))
def iAddA : PyData → PyData → R PyData
  | .int a, .int b => .ok (.int (a + b))
  | .str a, .str b => gd (Nat.ble (a.length + b.length) small) (.ok (.str (a ++ b)))
  | .list a, .list b => gd (Nat.ble (a.length + b.length) small) (.ok (.list (a ++ b)))
  | .tuple a, .tuple b => gd (!a.isEmpty && !b.isEmpty && Nat.ble (a.length + b.length) small) (.ok (.tuple (a ++ b)))
  | _, _ => .stuck
theorem ops_addA : OpS K C E (rAddA K) iAddA := by
  intro mu G0 H0 env σ G H x y dx dy Q S rx ry h
  cases rx with
  | int i => cases ry <;> first | exact h.elim | exact .inl ⟨_, _, rfl, rfl, post_here S h (.int _)⟩
  | str i =>
    cases ry <;> first | exact h.elim | skip
    obtain ⟨c, h⟩ := Post.gdL h
    exact .inr (.inl ⟨_, _, rfl, rfl, Nat.le_trans (Nat.le_of_ble_eq_true c) small_le, post_here S h (.str _)⟩)
  | lst a1 b1 =>
    cases ry <;> first | exact h.elim | skip
    rename_i a2 b2
    obtain ⟨c, h⟩ := Post.gdL h
    refine .inr (.inr (.inr ⟨_, _, _, _, rfl, rfl, S.sub _ _ a1, S.sub _ _ a2, ?_, fun p hp => ?_⟩))
    · rw [b1.length, b2.length]; exact Nat.le_trans (Nat.le_of_ble_eq_true c) small_le
    · exact post_new S h hp _ nt_lst (.lst upd_same (RpA.mono (same_new (S.sub.free hp)) _ _ (b1.append b2)))
  | tup a1 b1 =>
    cases ry <;> first | exact h.elim | skip
    rename_i a2 b2
    obtain ⟨c, h⟩ := Post.gdL h
    rw [Bool.and_eq_true, Bool.and_eq_true] at c
    obtain ⟨⟨c1, c2⟩, c3⟩ := c
    refine .inr (.inr (.inl ⟨_, _, _, _, rfl, rfl, sqt_same S.sub a1, sqt_same S.sub a2, ?_, ?_, ?_, fun _ p hp => ?_⟩))
    · intro z
      have := b1.length
      rw [z] at this
      cases b1 <;> simp_all
    · rw [b1.length, b2.length]; exact Nat.le_trans (Nat.le_of_ble_eq_true c3) small_le
    · intro z
      exfalso
      subst z
      cases b2
      simp at c2
    · exact post_new S h hp _ nt_tup (.tup (SqT.of upd_same) (RpA.mono (same_new (S.sub.free hp)) _ _ (b1.append b2)))
  | _ => cases ry <;> exact h.elim
theorem d_addA {a b : Expr} {ta tb : TE} {f g : M} {pos : Pos} (ha : ED X C E a ta f) (hb : ED X C E b tb g) : ED X C E (.BinOp a .Add b pos) (tOp (rAddA X.K) ta tb) (mOp iAddA f g) := d_op op_addA ops_addA ha hb
def rMulA : R2 := fun x y H Q => (rI CMul fun i j => .int (i * j)) x y H Q ∨ rRep x y H Q
theorem op_mulA : OpR X (binaryOp .Mult) rMulA := op_mul.or op_rep
def repD (n : Nat) (ds : List PyData) : List PyData := match n with
  | 0 => []
  | n + 1 => ds ++ repD n ds
theorem repD_eq (n : Nat) (ds : List PyData) : repD n ds = (List.replicate n ds).flatten := by
  induction n with
  | zero => rfl
  | succ n ih => rw [repD, ih, List.replicate_succ, List.flatten_cons]
theorem RpA.rep {vs : List V} {ds : List PyData} (h : RpA K G vs ds) : ∀ n, RpA K G (List.replicate n vs).flatten (repD n ds)
  | 0 => .nil
  | n + 1 => by
    rw [List.replicate_succ, List.flatten_cons]
    exact h.append (RpA.rep h n)
def iMulA : PyData → PyData → R PyData
  | .int a, .int b => gd (lowI a || lowI b) (.ok (.int (a * b)))
  | .list a, .int b => gd (near b && Nat.ble (a.length * b.toNat) small) (.ok (.list (repD b.toNat a)))
  | _, _ => .stuck
theorem ops_mulA : OpS K C E rMulA iMulA := by
  intro mu G0 H0 env σ G H x y dx dy Q S rx ry h
  cases rx with
  | int i =>
    cases ry <;> first | exact h.elim | skip
    rename_i j
    obtain ⟨c, h⟩ := Post.gdL h
    refine .inl ⟨_, _, rfl, rfl, ?_, post_here S h (.int _)⟩
    rcases Bool.or_eq_true_iff.mp c with c | c
    · exact .inl (lowI_is c)
    · exact .inr (lowI_is c)
  | lst a1 b1 =>
    cases ry <;> first | exact h.elim | skip
    rename_i k
    obtain ⟨c, h⟩ := Post.gdL h
    rw [Bool.and_eq_true] at c
    have := near_is c.1
    refine .inr ⟨_, _, _, rfl, rfl, S.sub _ _ a1, by omega, by omega, ?_, fun p hp => ?_⟩
    · rw [b1.length]; exact Nat.le_trans (Nat.le_of_ble_eq_true c.2) small_le
    · exact post_new S h hp _ nt_lst (.lst upd_same (RpA.mono (same_new (S.sub.free hp)) _ _ (b1.rep _)))
  | _ => cases ry <;> exact h.elim
theorem d_mulA {a b : Expr} {ta tb : TE} {f g : M} {pos : Pos} (ha : ED X C E a ta f) (hb : ED X C E b tb g) : ED X C E (.BinOp a .Mult b pos) (tOp rMulA ta tb) (mOp iMulA f g) := d_op op_mulA ops_mulA ha hb
/-! ### in a list -/
def anyEq (d : PyData) : List PyData → Bool
  | [] => false
  | z :: r => eqF deep z d || anyEq d r
theorem anyEq_is {d : PyData} : ∀ {ds : List PyData}, shA (shF (deep - 1)) ds = true → anyEq d ds = ds.any fun z => PyData.eqv z d
  | [], _ => rfl
  | z :: r, h => by
    have h : (shF (deep - 1) z && shA (shF (deep - 1)) r) = true := h
    rw [Bool.and_eq_true] at h
    have up : ∀ (n : Nat) (d : PyData), shF n d = true → shF (n + 1) d = true := by
      intro n
      induction n with
      | zero => intro d h; cases d <;> simp_all [shF]
      | succ n ih =>
        have ihA : ∀ xs, shA (shF n) xs = true → shA (shF (n + 1)) xs = true := by
          intro xs
          induction xs with
          | nil => intro _; rfl
          | cons x xs ihx =>
            intro h
            have h : (shF n x && shA (shF n) xs) = true := h
            rw [Bool.and_eq_true] at h
            show (shF (n + 1) x && shA (shF (n + 1)) xs) = true
            rw [ih x h.1, ihx h.2]; rfl
        intro d h
        cases d with
        | list xs => exact ihA xs h
        | tuple xs => exact ihA xs h
        | _ => simp_all [shF]
    show (eqF deep z d || anyEq d r) = (PyData.eqv z d || r.any fun z => PyData.eqv z d)
    rw [eqF_eqv deep z d (up _ _ h.1), anyEq_is h.2]
def iIn : PyData → PyData → R PyData
  | d, .list ds => gd (shF deep d && shF deep (.list ds)) (.ok (.bool (anyEq d ds)))
  | _, _ => .stuck
def iNi : PyData → PyData → R PyData
  | d, .list ds => gd (shF deep d && shF deep (.list ds)) (.ok (.bool (!anyEq d ds)))
  | _, _ => .stuck
theorem ops_in : OpS K C E (rInD K) iIn := by
  intro mu G0 H0 env σ G H x y dx dy Q S rx ry h
  cases ry with
  | lst a b =>
    rename_i xs ds
    have h : Post (RlE K) K C E mu G0 H0 σ G (lif env (gd (shF deep dx && shF deep (.list ds)) (.ok (.bool (anyEq dx ds))))) Q := by cases dx <;> exact h
    obtain ⟨c, h⟩ := Post.gdL h
    rw [Bool.and_eq_true] at c
    rw [anyEq_is c.2] at h
    exact ⟨dx, ds, (Rp.mono S.sub _ _ rx).dp _ _ (shF_lay _ _ c.1).1, Rp.dp _ _ (shF_lay _ _ c.2).1 (.lst (S.sub _ _ a) (RpA.mono S.sub _ _ b)), shF_shaped (by decide) c.1, shF_shaped (by decide) c.2, post_here S h (.bl _)⟩
  | _ => cases dx <;> exact h.elim
theorem ops_ni : OpS K C E (rNotInD K) iNi := by
  intro mu G0 H0 env σ G H x y dx dy Q S rx ry h
  cases ry with
  | lst a b =>
    rename_i xs ds
    have h : Post (RlE K) K C E mu G0 H0 σ G (lif env (gd (shF deep dx && shF deep (.list ds)) (.ok (.bool (!anyEq dx ds))))) Q := by cases dx <;> exact h
    obtain ⟨c, h⟩ := Post.gdL h
    rw [Bool.and_eq_true] at c
    rw [anyEq_is c.2] at h
    exact ⟨dx, ds, (Rp.mono S.sub _ _ rx).dp _ _ (shF_lay _ _ c.1).1, Rp.dp _ _ (shF_lay _ _ c.2).1 (.lst (S.sub _ _ a) (RpA.mono S.sub _ _ b)), shF_shaped (by decide) c.1, shF_shaped (by decide) c.2, post_here S h (.bl _)⟩
  | _ => cases dx <;> exact h.elim
theorem d_in {a b : Expr} {ta tb : TE} {f g : M} {pos : Pos} (hu : X.A.units + 65 < cLine) (ha : ED X C E a ta f) (hb : ED X C E b tb g) (hm : behindInMarks .In b = false := by rfl) : ED X C E (.Compare a [.In] [b] pos) (tOp (rInD X.K) ta tb) (mOp iIn f g) := d_cmpR (op_inD hu) ops_in hm ha hb
theorem d_ni {a b : Expr} {ta tb : TE} {f g : M} {pos : Pos} (hu : X.A.units + 65 < cLine) (ha : ED X C E a ta f) (hb : ED X C E b tb g) (hm : behindInMarks .NotIn b = false := by rfl) : ED X C E (.Compare a [.NotIn] [b] pos) (tOp (rNotInD X.K) ta tb) (mOp iNi f g) := d_cmpR (op_notInD hu) ops_ni hm ha hb
theorem t_in {a b : Expr} {ta tb : TE} {f g : M} {pos : Pos} (hu : X.A.units + 65 < cLine) (ha : ED X C E a ta f) (hb : ED X C E b tb g) (hm : behindInMarks .In b = false := by rfl) : TD X C E (.Compare a [.In] [b] pos) (tTest (tOp (rInD X.K) ta tb)) (mtB (mOp iIn f g)) := t_cmpR (op_inD hu) ops_in hm ha hb
theorem t_ni {a b : Expr} {ta tb : TE} {f g : M} {pos : Pos} (hu : X.A.units + 65 < cLine) (ha : ED X C E a ta f) (hb : ED X C E b tb g) (hm : behindInMarks .NotIn b = false := by rfl) : TD X C E (.Compare a [.NotIn] [b] pos) (tTest (tOp (rNotInD X.K) ta tb)) (mtB (mOp iNi f g)) := t_cmpR (op_notInD hu) ops_ni hm ha hb
theorem room65 {k : Nat} {A : Around} (hr : Room (k + 1) A) : A.units + 65 < cLine := by have := hr.un; omega
/-! ### y = [..], y a plain local name -/
theorem s_setLc (i : Nat) {y : Str} {py spos : Pos} {tg iter elt : Expr} {scope : Scope} {own : List (Str × Nat)} {vs : List Nat} {wi : TI} {gg : TG} {bb : Bi} {is : List Nat} {te : TE} {ma : MA} {f : M} {pos : Pos} (hc : X.calm = true) (hN : X.N.Nodup) (ok : BlkOk X.N X.env.scope scope own) (hi : ID X C E tg iter wi ma)
    (hg : ∀ (s : Shared) (H : Hp) (B : Addr) (cl : List (Str × Addr)) (fp : List Addr), GD (X.blk s H scope (compEnvC scope cl B X.env) fp) C tg gg bb is)
    (he : ∀ (s : Shared) (H : Hp) (B : Addr) (cl : List (Str × Addr)) (fp : List Addr), ED (X.blk s H scope (compEnvC scope cl B X.env) fp) C EX0 elt te f)
    (hsw : swapsWith (.ListComp elt [⟨tg, iter, [], 0⟩] scope pos) (some (.Name y py)) spos.line X.env = pure true)
    (hy : X.N[i]? = some y := by rfl) (hyl : X.env.scope.names.lookup y = some .local := by rfl) (hvs : own.map (·.2) = vs := by rfl) (his : ∀ i ∈ is, i ∈ vs := by decide) (hs : ∀ x, foldedSetIterable iter X.env x = pure x := by intro _; rfl) :
    SD X C E (.Assign [.Name y py] (.ListComp elt [⟨tg, iter, [], 0⟩] scope pos) spos) (tAsg (tLc wi gg tYes te vs) (gName i)) (mAsg (bName i) (mComp vs ma bb mtYes f)) := by
  subst hvs
  exact ⟨ps_setLc hc hN hy hyl hsw hi.pe ok (fun s H B cl fp => (hg s H B cl fp).pe) (fun _ _ _ _ _ => pts_nil) (fun s H B cl fp => (he s H B cl fp).pe) hs, snds_asg (snd_comp hi.sd (hg X.s_0 X.H_0 0 [] []).sd his sndt_yes (he X.s_0 X.H_0 0 [] []).sd) sndg_name⟩
theorem s_setLcif (i : Nat) {y : Str} {py spos : Pos} {tg iter elt cnd : Expr} {scope : Scope} {own : List (Str × Nat)} {vs : List Nat} {wi : TI} {gg : TG} {bb : Bi} {is : List Nat} {te : TE} {tt : TT} {mt : MT} {ma : MA} {f : M} {pos : Pos} (hc : X.calm = true) (hN : X.N.Nodup) (ok : BlkOk X.N X.env.scope scope own) (hi : ID X C E tg iter wi ma)
    (hg : ∀ (s : Shared) (H : Hp) (B : Addr) (cl : List (Str × Addr)) (fp : List Addr), GD (X.blk s H scope (compEnvC scope cl B X.env) fp) C tg gg bb is)
    (ht : ∀ (s : Shared) (H : Hp) (B : Addr) (cl : List (Str × Addr)) (fp : List Addr), TD (X.blk s H scope (compEnvC scope cl B X.env) fp) C EX0 cnd tt mt)
    (he : ∀ (s : Shared) (H : Hp) (B : Addr) (cl : List (Str × Addr)) (fp : List Addr), ED (X.blk s H scope (compEnvC scope cl B X.env) fp) C EX0 elt te f)
    (hsw : swapsWith (.ListComp elt [⟨tg, iter, [cnd], 0⟩] scope pos) (some (.Name y py)) spos.line X.env = pure true)
    (hy : X.N[i]? = some y := by rfl) (hyl : X.env.scope.names.lookup y = some .local := by rfl) (hvs : own.map (·.2) = vs := by rfl) (his : ∀ i ∈ is, i ∈ vs := by decide) (hs : ∀ x, foldedSetIterable iter X.env x = pure x := by intro _; rfl) :
    SD X C E (.Assign [.Name y py] (.ListComp elt [⟨tg, iter, [cnd], 0⟩] scope pos) spos) (tAsg (tLc wi gg tt te vs) (gName i)) (mAsg (bName i) (mComp vs ma bb mt f)) := by
  subst hvs
  exact ⟨ps_setLc hc hN hy hyl hsw hi.pe ok (fun s H B cl fp => (hg s H B cl fp).pe) (fun s H B cl fp => pts_one (ht s H B cl fp).pe) (fun s H B cl fp => (he s H B cl fp).pe) hs, snds_asg (snd_comp hi.sd (hg X.s_0 X.H_0 0 [] []).sd his (ht X.s_0 X.H_0 0 [] []).sd (he X.s_0 X.H_0 0 [] []).sd) sndg_name⟩
end
/-! ### the words for what is refused; parts of a law's text -/
def nmT : Nat → Option Str
  | 1 => some "part"
  | 2 => some "spread"
  | 3 => some "tree"
  | 4 => some "paper"
  | 5 => some "size"
  | 6 => some "text"
  | 7 => some "store"
  | 8 => some "no chance"
  | 9 => some "no such"
  | _ => none
def hdsOf : List Stmt → List ExceptHandler
  | .Try _ h _ _ _ :: _ => h
  | _ => []
/-- the first loop's body -/
def lawBody (s : Stmt) : List Stmt := match defBody s with
  | .For _ _ b _ _ :: _ => b
  | _ => []
/-! ### readings by name -/
abbrev rLenQ (K : PySem.W.Frag) : List V → Hp → VK → Prop := fun xs H Q => ∃ p ys, xs = [.ref p] ∧ (SqL K H p ys ∨ SqT K H p ys) ∧ Q (.int ys.length) H
abbrev rAbsQ : List V → Hp → VK → Prop := fun xs H Q => ∃ i, xs = [.int i] ∧ Q (.int (if i < 0 then -i else i)) H
abbrev rIntQ : List V → Hp → VK → Prop := fun xs H Q => (∃ i, xs = [.int i] ∧ Q (.int i) H) ∨ ∃ k, xs = [.bl k] ∧ Q (.int (if k then 1 else 0)) H
abbrev rStrQ : List V → Hp → VK → Prop := fun xs H Q => ∃ i : Int, xs = [.int i] ∧ i.natAbs.log2 < 1920 ∧ Q (.str (toString i)) H
abbrev tTruK (K : PySem.W.Frag) (te : TE) : TT := fun σ H Q => te σ H fun x H' => ∃ k, TruV K x H' k ∧ Q k H'
end LW

namespace LW
open PySem PySem.Spec PyProof.Rows L2 LamX
/-! ### the script's first cell as dice -/
section
variable {K : PySem.W.Frag} {G H : Hp} {C : Cl}
abbrev intsD (is : List Int) : List PyData := is.map PyData.int
theorem rpa_ints : ∀ (is : List Int) (vs : List V), RpA K G vs (intsD is) → vs = is.map V.int
  | [], vs, h => by cases h; rfl
  | i :: is, vs, h => by
    cases h with
    | cons h1 h2 =>
      cases h1
      rw [rpa_ints is _ h2]
      rfl
theorem ints_rpa : ∀ (is : List Int), RpA K G (is.map V.int) (intsD is)
  | [] => .nil
  | i :: is => .cons (.int i) (ints_rpa is)
theorem cut_first (ns : List Int) : cutV (ns.map V.int) none (some 1) = (ns.take 1).map V.int := by
  unfold cutV
  have e0 : HT.sIx (ns.map V.int).length (ns.map V.int).length (some 1) = min 1 (ns.map V.int).length := HT.sIx_nat _ _ 1
  rw [HT.sIx_none, e0]
  cases ns with
  | nil => rfl
  | cons n t =>
    have e : min 1 (((n :: t).map V.int).length) - 0 = 1 := by simp
    rw [e]; rfl
def spRounds (K : PySem.W.Frag) (C : Cl) (dice : Int → List Int) : Sp := fun vs H Q _ => ∃ (a : Addr) (ns : List Int), vs = [.ref a, .int 1] ∧ Tabs C.T H ∧ SqL K H a (ns.map V.int) ∧
  ∀ l q H', Tabs C.T H' → H' l = some (.lst [.ref q]) → H' q = some (.lst ((dice (ns.headD 0)).map V.int)) → Q (.ref l) H'
theorem rounds_ok {P : Program} {w : World} {mg : Str → Option Value} {base : Heap} {x qual : Str} {params : Arguments} {st : Stmt} {r : List Stmt} {scope : Scope} {f : Addr} {fd : FuncData} {k : Nat} {m : MS} {N : List Str} {dice : Int → List Int}
    (F : FunD K x qual params (st :: r) scope [] [] f fd) (S : FnScope N ["script", "most"] scope) (hN : N.length = 4)
    (hb : ∀ (cdv : Value) (A : Around) (outer : List PySem.Env) (s : Shared) (H : Hp) (E : XK), Room k (A.deeper (envOfC qual scope s.heap.objs.size f cdv)) →
      PS (cxOf (L2.CX P w) P w K mg base N qual scope f cdv A outer s H E) st (tAsg (tSl (rSlL K) (tVar 0) tNoPart (tPart (tVar 1))) (gName 2)) ∧ ∃ t, BD (cxOf (L2.CX P w) P w K mg base N qual scope f cdv A outer s H E) C E r t m)
    (h0 : ∃ e, m [none, some (.sh (.int 1)), some (.sh (.list [])), none] = .rt e (.list [.list (intsD (dice 0))]))
    (h1 : ∀ z, ∃ e, m [none, some (.sh (.int 1)), some (.sh (.list [.int z])), none] = .rt e (.list [.list (intsD (dice z))])) :
    FnOk P w K mg base (L2.CX P w) (k + 1) f fd ["script", "most"] (spRounds K C dice) := by
  refine F.ok S (fun vs H Q E h => by obtain ⟨a, ns, rfl, _⟩ := h; rfl) fun cdv A outer s H vs Q E hr h => ?_
  obtain ⟨a, ns, rfl, tb, hS, q⟩ := h
  obtain ⟨hp, t, ht⟩ := hb cdv A outer s H E hr
  obtain ⟨n0, n1, n2, n3, rfl⟩ : ∃ a b c d, N = [a, b, c, d] := by
    match N, hN with
    | [a, b, c, d], _ => exact ⟨a, b, c, d, rfl⟩
  have hm : ∃ e, m [none, some (.sh (.int 1)), some (.sh (.list (intsD (ns.take 1)))), none] = .rt e (.list [.list (intsD (dice (ns.headD 0)))]) := by
    cases ns with
    | nil => exact h0
    | cons z r => exact h1 z
  obtain ⟨e, hm⟩ := hm
  refine ⟨_, pss_cons hp ht.pe, ?_⟩
  refine ⟨.ref a, rfl, .int 1, rfl, 1, rfl, a, _, rfl, hS, fun p hpn => ?_⟩
  rw [cut_first]
  let G2 : Hp := fun b => if b = p then some (.lst ((ns.take 1).map V.int)) else none
  have gp : G2 p = some (.lst ((ns.take 1).map V.int)) := if_pos rfl
  have gi : ∀ b o, G2 b = some o → b = p ∧ o = .lst ((ns.take 1).map V.int) := fun b o e => by
    by_cases hb : b = p
    · subst hb; rw [gp] at e; exact ⟨rfl, (Option.some.inj e).symm⟩
    · have e : (if b = p then some (HO.lst ((ns.take 1).map V.int)) else none) = some o := e
      rw [if_neg hb] at e; cases e
  have S2 : StR K C mu0 G2 (upd H p (.lst ((ns.take 1).map V.int))) [none, some (.sh (.int 1)), some (.sh (.list (intsD (ns.take 1)))), none] [some (.ref a), some (.int 1), some (.ref p), none] G2 (upd H p (.lst ((ns.take 1).map V.int))) := {
    sub := fun b o e => by obtain ⟨rfl, rfl⟩ := gi b o e; exact upd_same
    ng := fun b o e => by obtain ⟨rfl, rfl⟩ := gi b o e; exact nt_lst
    g0 := .refl _
    fz := .refl (tb.ext fun b o e => by rw [upd_ne (ne_of_none e hpn)]; exact e)
    new := fun _ _ e => .inl e
    mh := fun _ m => m.elim
    len := rfl
    sh := fun i d e => by
      match i, e with
      | 1, e => cases e; exact ⟨_, rfl, .int 1⟩
      | 2, e => cases e; exact ⟨_, rfl, .lst gp (ints_rpa _)⟩
      | 0, e => cases e
      | 3, e => cases e
      | n + 4, e => cases e
    ol := fun i m ds e => by
      match i, e with
      | 0, e => cases e
      | 1, e => cases e
      | 2, e => cases e
      | 3, e => cases e
      | n + 4, e => cases e
    ow := fun i j z ⟨m, ds, e⟩ _ _ _ => by
      match i, e with
      | 0, e => cases e
      | 1, e => cases e
      | 2, e => cases e
      | 3, e => cases e
      | n + 4, e => cases e }
  refine ht.sd mu0 G2 _ _ [some (.ref a), some (.int 1), some (.ref p), none] _ _ _ S2 ?_
  rw [hm]
  intro v σ' G' H' S' _ rv
  cases rv with
  | lst e1 e2 =>
    cases e2 with
    | cons e3 e4 =>
      cases e4
      cases e3 with
      | lst e5 e6 =>
        rw [rpa_ints _ _ e6] at e5
        exact q _ _ _ S'.fz.tb (S'.sub _ _ e1) (S'.sub _ _ e5)
end
end LW
namespace LW
open PySem PySem.Spec PyProof.Rows L2 LamX
section
variable {K : PySem.W.Frag} {C : Cl}
/-! ### the law's loop over its one dice -/
def spLaw (K : PySem.W.Frag) (C : Cl) : Sp := fun vs H Q _ => ∃ (a : Addr) (ns : List Int), vs = [.ref a] ∧ (∀ z ∈ ns, Builtin.Int.intBits z ≤ 1048576) ∧ Tabs C.T H ∧ SqL K H a (ns.map V.int) ∧ ∀ H', Q (.bl true) H'
def TailOk (C : Cl) (n : Nat) (tt : TS) : Prop := ∀ (D : Ends) (σ : L2.St) (H : Hp), σ.length = n → Tabs C.T H → (∀ H', D.rt (.bl true) H') → tt D σ H
def startL (n : Nat) (is : List Int) : LEnv := none :: some (.ow true (intsD is)) :: List.replicate (n - 2) none
theorem startL_get {n : Nat} {is : List Int} {i : Nat} {s : Sl} (h : (startL n is)[i]? = some (some s)) : i = 1 ∧ s = .ow true (intsD is) := by
  unfold startL at h
  match i, h with
  | 0, h => cases h
  | 1, h => cases h; exact ⟨rfl, rfl⟩
  | i + 2, h =>
    rw [List.getElem?_cons_succ, List.getElem?_cons_succ, List.getElem?_replicate] at h
    split at h <;> cases h
theorem law_ok {P : Program} {w : World} {mg : Str → Option Value} {base : Heap} {x qual : Str} {params : Arguments} {tg iter : Expr} {body tail : List Stmt} {pos : Pos} {scope : Scope} {f c : Addr} {fd : FuncData} {k : Nat} {m : MS} {N : List Str} {dice : Int → List Int}
    (F : FunD K x qual params (.For tg iter body [] pos :: tail) scope [] [] f fd) (S : FnScope N ["script"] scope) (hN : 2 ≤ N.length) (hc : fd.code = .ref c)
    (hb : ∀ (A : Around) (outer : List PySem.Env) (s : Shared) (H : Hp) (E : XK), Room k (A.deeper (envOfC qual scope s.heap.objs.size f (.ref c))) →
      ∃ tb tt, PSs (cxOf (L2.CX P w) P w K mg base N qual scope f (.ref c) A outer s H E) (.For tg iter body [] pos :: tail) (tSeq (tFor (iSeq K (tCallS (spRounds K C dice) (fun _ => E) (tCons (tVar 0) (tCons (tC (.int 1)) tNil)))) (gName 1) tb) tt) ∧ SndS K C E tb m ∧ TailOk C N.length tt)
    (hm : ∀ z, Builtin.Int.intBits z ≤ 1048576 → ∃ e, m (startL N.length (dice z)) = .nx e ∧ e.length = N.length) :
    FnOk P w K mg base (L2.CX P w) (k + 1) f fd ["script"] (spLaw K C) := by
  obtain ⟨oc, od, dV, kV, doc, pm, an, cdv, ct, osl, rfl, lk, hcd, _, _⟩ := F.ex
  obtain rfl : cdv = Value.ref c := hc
  refine fn_of lk hcd S (fun vs H Q E h => by obtain ⟨a, ns, rfl, _⟩ := h; rfl) fun A outer s H vs Q E hr h => ?_
  obtain ⟨a, ns, rfl, hbits, tb, hS, q⟩ := h
  obtain ⟨tb', tt, hp, sd, hT⟩ := hb A outer s H E hr
  refine ⟨_, hp, ?_⟩
  have hz : Builtin.Int.intBits (ns.headD 0) ≤ 1048576 := by
    cases ns with
    | nil => decide
    | cons z r => exact hbits z List.mem_cons_self
  obtain ⟨e, hm, he⟩ := hm _ hz
  have hl0 : (L2.start N [V.ref a]).length = N.length := by
    unfold L2.start
    rw [List.length_append, List.length_map, List.length_replicate]
    simp only [List.length_cons, List.length_nil]
    omega
  refine .inl ⟨.ref a, by unfold L2.start; rfl, a, ns, rfl, tb, hS, fun l p H1 tb1 hl hq => ⟨l, rfl, ⟨[.ref p], SqL.of hl⟩, ?_⟩⟩
  refine for_list (xs := [.ref p]) (fun i σ' H' => (i = 0 ∧ σ' = L2.start N [V.ref a] ∧ H' = H1) ∨ (i = 1 ∧ σ'.length = N.length ∧ Tabs C.T H' ∧ H' l = some (.lst [.ref p]))) (.inl ⟨rfl, rfl, rfl⟩) (fun i σ' H' hi h => ?_) (fun i y σ' H' hy h => ?_) (fun σ' H' h => ?_)
  · rcases h with ⟨_, _, e3⟩ | ⟨_, _, _, h⟩
    · rw [e3]; exact SqL.of hl
    · exact SqL.of h
  · rcases h with ⟨e1, e2, e3⟩ | ⟨rfl, _⟩
    · rw [e1] at hy
      cases hy
      rw [e1, e2, e3]
      let σ1 : L2.St := (L2.start N [V.ref a]).set 1 (some (.ref p))
      have g1 : ∀ i v, σ1[i]? = some v → i = 1 → v = some (.ref p) := fun i v e1 ei => by
        subst ei
        rw [List.getElem?_set_self (by rw [hl0]; omega)] at e1
        exact (Option.some.inj e1).symm
      have g2 : σ1[1]? = some (some (.ref p)) := List.getElem?_set_self (by rw [hl0]; omega)
      have S1 : StR K C (muP p) (fun _ => none) H1 (startL N.length (dice (ns.headD 0))) σ1 (fun _ => none) H1 := {
        sub := fun b o e => nomatch e
        ng := fun b o e => nomatch e
        g0 := .refl _
        fz := .refl tb1
        new := fun b o e => nomatch e
        mh := fun b hb => by
          have hb : b = p := hb
          rw [hb]; exact ⟨_, hq⟩
        len := by
          show _ = ((L2.start N [V.ref a]).set 1 (some (.ref p))).length
          rw [List.length_set, hl0]
          unfold startL
          simp only [List.length_cons, List.length_replicate]
          omega
        sh := fun i d e => by obtain ⟨_, e2⟩ := startL_get e; cases e2
        ol := fun i m ds e => by
          obtain ⟨rfl, e2⟩ := startL_get e
          cases e2
          exact ⟨p, _, g2, hq, ints_rpa _, rfl, rfl⟩
        ow := fun i j z ⟨m1, d1, e1⟩ ⟨m2, d2, e2⟩ _ _ => by rw [(startL_get e1).1, (startL_get e2).1] }
      refine sd (muP p) _ _ _ σ1 _ _ _ S1 ?_
      rw [hm]
      intro σ2 G2 H2 S2 _
      have lp : l ≠ p := fun z => by
        rw [z, hq] at hl
        have e1 := Option.some.inj hl
        injection e1 with e2
        cases hd : dice (ns.headD 0) with
        | nil => rw [hd] at e2; cases e2
        | cons i r => rw [hd] at e2; cases e2
      exact .inr ⟨rfl, S2.len.symm.trans he, S2.fz.tb, S2.fz.k _ _ lp nt_lst hl⟩
    · cases hy
  · rcases h with ⟨h, _⟩ | ⟨_, hl2, tb2, _⟩
    · cases h
    · exact hT _ _ _ hl2 tb2 q
end
end LW

namespace LW
open PySem PySem.Spec PyProof.Rows L2 LamX
/-! ### the text behind the loop: what must be refused -/
structure Lm where
  params : Arguments
  body : Expr
  scope : Scope
  word : Str
def noArgs : Arguments := ⟨[], [], none, [], [], none, []⟩
def lmOf : Expr → Option Lm
  | .Tuple [.Lambda params body scope _, .Constant (.str w) _ _] _ _ => if scope.names.all fun y => !(y.2 == .free) then some ⟨params, body, scope, w⟩ else none
  | _ => none
def lmsOf : List Expr → Option (List Lm)
  | [] => some []
  | e :: es => match lmOf e, lmsOf es with
    | some l, some ls => some (l :: ls)
    | _, _ => none
def taW (T : List (Addr × Str)) (q : Str) : List Lm → TA
  | [] => tNil
  | l :: r => tCons (tTup (tCons (tLamV T q l.params l.body l.scope) (tCons (tC (.str l.word)) tNil))) (taW T q r)
section
variable {X : Cx} {T : List (Addr × Str)}
theorem pa_wrong {c P : Addr} (TB : TabB X.base X.mg c P) (hcode : X.env.code = .ref c) (hm : (P, X.env.qual ++ "<lambda>") ∈ T) (hu : ∀ p ∈ T, p.1 = P → p.2 = X.env.qual ++ "<lambda>") :
    ∀ (es : List Expr) (ls : List Lm), lmsOf es = some ls → (∀ l ∈ ls, defaultsOf l.params X.env = ([], [])) → PA X es (taW T (X.env.qual ++ "<lambda>") ls)
  | [], ls, h, _ => by cases h; exact pa_nil
  | e :: es, ls, h, hd => by
    unfold lmsOf at h
    cases e1 : lmOf e with
    | none => rw [e1] at h; cases h
    | some l =>
      rw [e1] at h
      cases e2 : lmsOf es with
      | none => rw [e2] at h; cases h
      | some r =>
        rw [e2] at h
        cases h
        unfold lmOf at e1
        split at e1
        · rename_i params body scope _ w _ _ _ _
          split at e1
          · rename_i hf
            cases e1
            refine pa_cons (pe_tup (pa_cons (pe_lamV TB hcode hm hu (hd _ List.mem_cons_self) fun y hy => ?_) (pa_cons pe_str pa_nil rfl) rfl)) (pa_wrong TB hcode hm hu es r e2 fun l hl => hd l (List.mem_cons_of_mem _ hl)) rfl
            have := List.all_eq_true.mp hf y hy
            intro z
            rw [z] at this
            cases this
          · cases e1
        · cases e1
end
section
variable {K : PySem.W.Frag} {H H' : Hp} {C : Cl}
/-- one kept pair -/
def Wr (q : Str) (H : Hp) (v : V) (l : Lm) : Prop := ∃ t f c', v = .ref t ∧ H t = some (.tup [.ref f, .str l.word]) ∧ H f = some (LamO f c' q l.params l.body l.scope) ∧ H c' = some (CodeO c' q)
theorem Wr.ext {q : Str} {v : V} {l : Lm} (h : Wr q H v l) (e : ∀ b o, nt o → H b = some o → H' b = some o) : Wr q H' v l := by
  obtain ⟨t, f, c', rfl, h1, h2, h3⟩ := h
  exact ⟨t, f, c', rfl, e _ _ nt_tup h1, e _ _ (fun ps => lamO_ne ps) h2, e _ _ (fun ps => codeO_ne ps) h3⟩
inductive Wrs (q : Str) (H : Hp) : List V → List Lm → Prop
  | nil : Wrs q H [] []
  | cons {v : V} {vs : List V} {l : Lm} {ls : List Lm} : Wr q H v l → Wrs q H vs ls → Wrs q H (v :: vs) (l :: ls)
theorem Wrs.ext {q : Str} (e : ∀ b o, nt o → H b = some o → H' b = some o) : ∀ {vs : List V} {ls : List Lm}, Wrs q H vs ls → Wrs q H' vs ls
  | _, _, .nil => .nil
  | _, _, .cons h r => .cons (h.ext e) (Wrs.ext e r)
theorem Wrs.get {q : Str} {v : V} : ∀ {vs : List V} {ls : List Lm} {i : Nat}, Wrs q H vs ls → vs[i]? = some v → ∃ l, l ∈ ls ∧ Wr q H v l
  | _, _, _, .nil, e => by cases e
  | _, _, 0, .cons h r, e => by cases e; exact ⟨_, List.mem_cons_self, h⟩
  | _, _, i + 1, .cons h r, e => by
    obtain ⟨l, m, h⟩ := Wrs.get (i := i) r (by rw [List.getElem?_cons_succ] at e; exact e)
    exact ⟨l, List.mem_cons_of_mem _ m, h⟩
theorem Wrs.len {q : Str} : ∀ {vs : List V} {ls : List Lm}, Wrs q H vs ls → vs.length = ls.length
  | _, _, .nil => rfl
  | _, _, .cons _ r => by rw [List.length_cons, List.length_cons, r.len]
theorem up_same {p : Addr} {o : HO} (hp : H p = none) : ∀ b u, H b = some u → upd H p o b = some u := fun b u e => by rw [upd_ne (ne_of_none e hp)]; exact e
theorem wr_mean {q : Str} : ∀ (ls : List Lm) (σ : L2.St) (H : Hp) (Q : List V → Hp → Prop), Tabs C.T H → (∀ vs H', ExtN H H' → Tabs C.T H' → Wrs q H' vs ls → Q vs H') → taW C.T q ls σ H Q
  | [], σ, H, Q, tb, h => h [] H (.refl _) tb .nil
  | l :: r, σ, H, Q, tb, h => by
    refine ⟨tb, fun f c' H1 e1 t1 hf hc => ⟨show 2 ≤ sizeLine by decide, fun p hp => wr_mean r σ _ _ (t1.ext (up_same hp)) fun vs H2 e2 t2 w => h _ _ ((e1.trans (.of (up_same hp))).trans e2) t2 (.cons ?_ w)⟩⟩
    exact Wr.ext (l := l) (q := q) ⟨p, f, c', rfl, upd_same, up_same hp _ _ hf, up_same hp _ _ hc⟩ fun b o n e => e2 b o e n
theorem nmT_ok {c : Nat} {s : Str} (h : nmT c = some s) : PyData.strOk s = true := by
  unfold nmT at h
  split at h <;> first | (cases h; decide +kernel) | cases h
/-- what each of them does -/
structure LamG (P : Program) (w : World) (K : PySem.W.Frag) (mg : Str → Option Value) (base : Heap) (C : Cl) (k : Nat) (q : Str) (l : Lm) : Prop where
  ex : ∃ (t : XK → TE) (m : M) (c : Nat), LamRun P w K mg base k q l.params l.body l.scope t ∧ (∀ E, Snd K C E (t E) m) ∧ m [] = .rai c ∧ nmT c = some l.word
theorem told_mean {P : Program} {w : World} {mg : Str → Option Value} {base : Heap} {k : Nat} {q : Str} {l : Lm} {lT : List (Addr × Str)} {f c' : Addr} {Q : VK} {E : XK} (hl : ToldL K C nmT lT) (G : LamG P w K mg base C k q l) (h2 : H f = some (LamO f c' q l.params l.body l.scope)) (h3 : H c' = some (CodeO c' q)) (tb : Tabs C.T H)
    (hQ : ∀ H', (∀ b o, nt o → H b = some o → H' b = some o) → Tabs C.T H' → Q (.str l.word) H') : spTold P w K mg base k lT [.ref f] H Q E := by
  obtain ⟨tE, m, c, lr, sd, em, ew⟩ := G.ex
  refine ⟨f, c', q, l.params, l.body, l.scope, tE, rfl, h2, h3, lr, ?_⟩
  refine sd _ mu0 (fun _ => none) H [] [] (fun _ => none) H _ ?_ ?_
  · exact {
      sub := fun b o e => nomatch e
      ng := fun b o e => nomatch e
      g0 := .refl _
      fz := .refl tb
      new := fun b o e => nomatch e
      mh := fun _ m => m.elim
      len := rfl
      sh := fun i d e => nomatch e
      ol := fun i m ds e => nomatch e
      ow := fun i j z ⟨m1, d1, e1⟩ _ _ _ => nomatch e1 }
  · rw [em]
    intro H' fz
    exact hl c _ ew _ _ _ (hQ H' (fun b o n e => fz.k b o (fun z => z) n e) fz.tb)
/-- [pair for pair in wrong if _law_told(pair[0]) != pair[1]] == [] -/
abbrev ttW (K : PySem.W.Frag) (sp : Sp) (i : Nat) : TT := tTest (tOp (rNeD K) (tCallS sp (fun _ => EX0) (tCons (tOp (rIx K) (tVar i) (tC (.int 0))) tNil)) (tOp (rIx K) (tVar i) (tC (.int 1))))
abbrev teW (K : PySem.W.Frag) (sp : Sp) (i : Nat) : TE := tOp (rEqD K) (tLc (iSeq K (tVar 2)) (gName i) (ttW K sp i) (tVar i) [i]) (tLst tNil)
theorem eqv_str (s : Str) : PyData.eqv (.str s) (.str s) = true := by simp [PyData.eqv]
theorem wrongs_mean {P : Program} {w : World} {mg : Str → Option Value} {base : Heap} {k i : Nat} {q : Str} {ls : List Lm} {lT : List (Addr × Str)} {σ : L2.St} {Q : VK} {a : Addr} {vs : List V} (hl : ToldL K C nmT lT) (G : ∀ l ∈ ls, LamG P w K mg base C k q l)
    (hi : i < σ.length) (ha : σ[2]? = some (some (.ref a))) (hv : H a = some (.lst vs)) (W : Wrs q H vs ls) (tb : Tabs C.T H) (hQ : ∀ H', Tabs C.T H' → Q (.bl true) H') : teW K (spTold P w K mg base k lT) i σ H Q := by
  refine .inl ⟨.ref a, ha, a, rfl, ⟨vs, SqL.of hv⟩, fun D hD => ?_⟩
  refine lc_list (K := K) (xs := vs) (g := gName i) (tt := ttW K (spTold P w K mg base k lT) i) (te := tVar i) (vs := [i]) (σ := σ) (H1 := H) (D := D) (Qd := fun H2 => tLst tNil σ H2 fun y H3 => rEqD K (.ref D) y H3 Q) (fun _ H' => H' D = some (.lst []) ∧ H' a = some (.lst vs) ∧ Wrs q H' vs ls ∧ Tabs C.T H') ⟨upd_same, up_same hD _ _ hv, W.ext fun b o _ e => up_same hD _ _ e, tb.ext (up_same hD)⟩ (fun _ H' _ h => SqL.of h.2.1) (fun j x H' hj h => ?_) (fun H' h => ?_)
  · obtain ⟨h1, h2, h3, h4⟩ := h
    obtain ⟨l, hm, t, f, c', rfl, g1, g2, g3⟩ := h3.get hj
    have hs : ((wipe σ [i]).set i (some (V.ref t)))[i]? = some (some (.ref t)) := List.getElem?_set_self (by rw [wipe_length]; exact hi)
    refine ⟨by simp only [wipe, List.set_set], ?_⟩
    refine ⟨.ref t, hs, .inr (.inl ⟨t, _, 0, .ref f, rfl, rfl, .inl (.inl g1), rfl, ?_⟩)⟩
    refine told_mean (E := EX0) hl (G l hm) g2 g3 h4 fun H2 e2 t2 => ?_
    refine ⟨.ref t, hs, .inr (.inl ⟨t, _, 1, .str l.word, rfl, rfl, .inl (.inl (e2 _ _ nt_tup g1)), rfl, ?_⟩)⟩
    have ok : shF 1 (.str l.word) = true := by
      obtain ⟨_, _, _, _, _, _, ew⟩ := (G l hm).ex
      exact nmT_ok ew
    refine ⟨.str l.word, .str l.word, .str _, .str _, shF_shaped (by decide) ok, shF_shaped (by decide) ok, _, rfl, ?_⟩
    rw [eqv_str]
    exact ⟨e2 _ _ nt_lst h1, e2 _ _ nt_lst h2, h3.ext e2, t2⟩
  · obtain ⟨h1, _, _, h4⟩ := h
    refine ⟨Nat.zero_le _, fun p hp => ?_⟩
    exact ⟨.list [], .list [], .lst (SqL.of (up_same hp _ _ h1)) .nil, .lst (SqL.of upd_same) .nil, shF_shaped (n := 1) (by decide) rfl, shF_shaped (n := 1) (by decide) rfl, hQ _ (h4.ext (up_same hp))⟩
theorem tail_ok {P : Program} {w : World} {mg : Str → Option Value} {base : Heap} {k i n : Nat} {q : Str} {ls : List Lm} {lT : List (Addr × Str)} (hl : ToldL K C nmT lT) (G : ∀ l ∈ ls, LamG P w K mg base C k q l) (hi : i < n) (h2 : 2 < n) (hz : ls.length ≤ sizeLine) (hi2 : i ≠ 2) :
    TailOk C n (tSeq (tAsg (tLst (taW C.T q ls)) (gName 2)) (tRet (teW K (spTold P w K mg base k lT) i))) := by
  intro D σ H hn tb hD
  refine wr_mean ls σ H _ tb fun vs H1 e1 t1 W => ⟨by rw [W.len]; exact hz, fun p hp => ?_⟩
  exact wrongs_mean (vs := vs) hl G (by rw [List.length_set, hn]; exact hi) (List.getElem?_set_self (by rw [hn]; exact h2)) upd_same (W.ext fun b o _ e => up_same hp _ _ e) (t1.ext (up_same hp)) fun H' _ => hD H'
end
end LW
namespace LW
open PySem PySem.Spec PyProof.Rows L2 LamX
def wrongEs (s : Stmt) : List Expr := match defBody s with
  | _ :: .Assign _ (.List es _) _ :: _ => es
  | _ => []
def lmsIn (s : Stmt) : List Lm := (lmsOf (wrongEs s)).getD []
def LamAll (P : Program) (w : World) (K : PySem.W.Frag) (mg : Str → Option Value) (base : Heap) (C : Cl) (k : Nat) (q : Str) : List Lm → Prop
  | [] => True
  | l :: r => LamG P w K mg base C k q l ∧ LamAll P w K mg base C k q r
theorem LamAll.mem {P : Program} {w : World} {K : PySem.W.Frag} {mg : Str → Option Value} {base : Heap} {C : Cl} {k : Nat} {q : Str} : ∀ {ls : List Lm}, LamAll P w K mg base C k q ls → ∀ l ∈ ls, LamG P w K mg base C k q l
  | [], _, _, h => nomatch h
  | _ :: _, ⟨a, b⟩, l, h => by
    rcases List.mem_cons.mp h with rfl | h
    · exact a
    · exact LamAll.mem b l h
theorem lam_of {P : Program} {w : World} {K : PySem.W.Frag} {mg : Str → Option Value} {base : Heap} {C : Cl} {k : Nat} {q : Str} {params : Arguments} {body : Expr} {scope : Scope} {word : Str} (s0 : Shared) (c : Nat) {t : XK → TE} {m : M} (sc : FnScope [] [] scope)
    (bind : ∀ pm cv ctv, bindArgs (PySem.W.kla_fn "<lambda>" q params body scope [] pm cv ctv) ⟨[], []⟩ = pure [])
    (hb : ∀ (A : Around) (outer : List PySem.Env) (s : Shared) (H : Hp) (E : XK) (f c' : Addr), Room k (A.deeper (envOfC q scope s.heap.objs.size f (.ref c'))) → ED (cxOf (L2.CX P w) P w K mg base [] q scope f (.ref c') A outer s H E) C E body (t E) m)
    (hro : Room k (callerA.deeper (envOfC q scope s0.heap.objs.size 0 (.ref 0)))) (em : m [] = .rai c) (ew : nmT c = some word) : LamG P w K mg base C k q ⟨params, body, scope, word⟩ :=
  ⟨⟨t, m, c, ⟨sc, bind, fun A outer s H E f c' hr => (hb A outer s H E f c' hr).pe⟩, fun E => (hb callerA [] s0 (fun _ => none) E 0 0 hro).sd, em, ew⟩⟩
def diceOf (z : Int) : List Int := if -10 < z ∧ z < 10 then [(z.natAbs : Int), 0, 2] else [z, 1 + z.fmod 1009, if (10 : Int) ^ 18 ≤ z then 1 else 0]
end LW
namespace LW
open PySem PySem.Spec PyProof.Rows L2 LamX
def noDef (ls : List Lm) : Bool := ls.all fun l => l.params.defaults.isEmpty && l.params.kw_defaults.isEmpty
theorem noDef_ok {ls : List Lm} (h : noDef ls = true) (l : Lm) (hl : l ∈ ls) (env : PySem.Env) : defaultsOf l.params env = ([], []) := by
  obtain ⟨a, b⟩ := Bool.and_eq_true_iff.mp (List.all_eq_true.mp h l hl)
  rw [defaultsOf_eq, List.isEmpty_iff.mp a, List.isEmpty_iff.mp b]
  constructor
end LW

namespace LW
open PySem PySem.Spec PyProof.Rows L2 LamX
/-! ### the head's facts, for every law -/
def names9 : List Str := ["ChanceFault", "BadPart", "BadSpread", "BadTree", "BadPaper", "BadSize", "BadText", "BadStore", "NoChance", "NoSuch"]
def C9 (K : PySem.W.Frag) (Pt : Addr) : Cl := ⟨fun n => .ref (He.ga K (names9.getD n "")), [(Pt, ("law.<locals>.<lambda>" : Str))]⟩
def words9 : List (Str × Str) := [("BadPart", "part"), ("BadSpread", "spread"), ("BadTree", "tree"), ("BadPaper", "paper"), ("BadSize", "size"), ("BadText", "text"), ("BadStore", "store"), ("NoChance", "no chance"), ("NoSuch", "no such")]
def lT9 (K : PySem.W.Frag) : List (Addr × Str) := words9.map fun p => (He.ga K p.1, p.2)
/-- of each class raised, which clause takes it -/
def exTold (K : PySem.W.Frag) : Bool := (List.range 9).all fun i => (List.range (i + 1)).all fun j => decide (PySem.W.exmOne K (.ref (He.ga K (names9.getD (i + 1) ""))) (.ref (He.ga K ((words9.getD j ("", "")).1))) = some (decide (j = i)))
theorem exTold_ok {K : PySem.W.Frag} (h : exTold K = true) {i j : Nat} (hi : i < 9) (hj : j ≤ i) : PySem.W.exmOne K (.ref (He.ga K (names9.getD (i + 1) ""))) (.ref (He.ga K ((words9.getD j ("", "")).1))) = some (decide (j = i)) :=
  of_decide_eq_true (List.all_eq_true.mp (List.all_eq_true.mp h i (List.mem_range.mpr hi)) j (List.mem_range.mpr (by omega)))
theorem wTold_at {K : PySem.W.Frag} {Q : VK} {cls : Value} {d : Option Addr} {H : Hp} : ∀ (l : List (Addr × Str)) (i : Nat) (p : Addr × Str), l[i]? = some p → (∀ j q, j ≤ i → l[j]? = some q → PySem.W.exmOne K cls (.ref q.1) = some (decide (j = i))) → Q (.str p.2) H → wTold K Q l cls d H
  | [], _, _, e, _, _ => nomatch e
  | (a, s) :: r, 0, p, e, h, hQ => by
    cases e
    exact ⟨true, h 0 _ (Nat.le_refl _) rfl, fun _ => hQ, fun z => nomatch z⟩
  | (a, s) :: r, i + 1, p, e, h, hQ => by
    refine ⟨false, (h 0 _ (Nat.zero_le _) rfl).trans (by simp), (fun z => nomatch z), fun _ => wTold_at r i p (by rw [List.getElem?_cons_succ] at e; exact e) (fun j q hj ej => ?_) hQ⟩
    have := h (j + 1) q (by omega) (by rw [List.getElem?_cons_succ]; exact ej)
    rw [this]
    simp
theorem nmT_at {c : Nat} {s : Str} (h : nmT c = some s) : ∃ i x, c = i + 1 ∧ i < 9 ∧ words9[i]? = some (x, s) := by
  unfold nmT at h
  split at h <;> first | (cases h; exact ⟨_, _, rfl, by decide, rfl⟩) | cases h
theorem toldL9 {K : PySem.W.Frag} {Pt : Addr} (h : exTold K = true) : ToldL K (C9 K Pt) nmT (lT9 K) := by
  intro c s hc Q d H hQ
  obtain ⟨i, x, rfl, hi, ei⟩ := nmT_at hc
  refine wTold_at _ i (He.ga K x, s) (by unfold lT9; rw [List.getElem?_map, ei]; rfl) (fun j q hj ej => ?_) hQ
  unfold lT9 at ej
  rw [List.getElem?_map] at ej
  cases e2 : words9[j]? with
  | none => rw [e2] at ej; cases ej
  | some p =>
    rw [e2] at ej
    cases ej
    have := exTold_ok h hi hj
    have e3 : words9.getD j ("", "") = p := by rw [List.getD_eq_getElem?_getD, e2]; rfl
    rw [e3] at this
    exact this
section
variable {K : PySem.W.Frag} {h : Heap} {mg : Str → Option Value} {Pt : Addr}
theorem exi9 (X : K.In h) (G : h.Ns mainGlobals mg) {x : Str} {n : Nat} (g : (He.Fa.glo x).ok K = true) (e : (He.Fa.exc x).ok K = true) (hn : names9.getD n "" = x) : ExI K mg (C9 K Pt) x n := by
  obtain ⟨a, b, c, d⟩ := He.exc_ok e
  exact ⟨_, (by show Value.ref (He.ga K (names9.getD n "")) = _; rw [hn]), He.glo_ok X G g, b, a, c, d⟩
theorem tup_ints {x : Str} {is : List Int} (h : He.tupB K x (is.map He.Dv.int) = true) : TupK K (He.ga K x) (intsD is) := by
  refine ⟨is.map V.int, fun H => ?_, fun G => ints_rpa is⟩
  have := He.tupB_ok h H
  rw [List.map_map] at this
  exact this
theorem tabs0 {H : Hp} {P : Addr} {q : Str} (h : H P = some (.tbl #[])) : Tabs [(P, q)] H := fun p hp => by
  rw [List.mem_singleton.mp hp]
  exact ⟨#[], h, by constructor, fun pos cv e => by cases e⟩
def gcdB (K : PySem.W.Frag) : Bool := He.eqO (PySem.W.nsIn K mainGlobals "gcd") (some (some (.builtin "math.gcd")))
theorem gcdB_ok (X : K.In h) (G : h.Ns mainGlobals mg) (c : gcdB K = true) : mg "gcd" = some (.builtin "math.gcd") := PySem.W.mg_of X G (He.eqO_ok c)
/-- a def of the top, by its name and statement -/
def defOf (x : Str) (st : Stmt) (dfl : List He.Dv := []) : He.DefD := ⟨(x, none), x, x, defArgs st, defBody st, defScope st, dfl, []⟩
end
end LW

namespace LW
open PySem PySem.Spec PyProof.Rows L2
/-! ### mirrors that look at few slots: what they answer on a small state they answer on each that agrees with it -/
structure Ag (J : Nat → Bool) (jx : Nat) (e0 e : LEnv) : Prop where
  len : e0.length = e.length
  own0 : ∀ (i : Nat) m ds, e0[i]? = some (some (.ow m ds)) → i = 1
  own : ∀ (i : Nat) m ds, e[i]? = some (some (.ow m ds)) → i = 1
  var : ∀ (i : Nat) s, J i = false → e0[i]? = some (some s) → e[i]? = some (some s)
  hj : ∀ i, J i = true → J jx = true
  ix : ∀ i, J i = true → i ≠ jx → ∃ (l0 l : List PyData) (n0 n : Nat), e0[i]? = some (some (.sh (.list l0))) ∧ e[i]? = some (some (.sh (.list l))) ∧ e0[jx]? = some (some (.sh (.int (.ofNat n0)))) ∧ e[jx]? = some (some (.sh (.int (.ofNat n)))) ∧ ∀ d, l0[n0]? = some d → l[n]? = some d
def AgR {α : Type} (e0 e : LEnv) : RE α → RE α → Prop
  | .ok p, r => p.1 = e0 ∧ r = .ok (e, p.2)
  | .rai c, r => r = .rai c
  | .stuck, _ => True
theorem AgR.bind {α β : Type} {e0 e : LEnv} {r r' : RE α} {k k' : LEnv × α → RE β} (h : AgR e0 e r r') (hk : ∀ a, AgR e0 e (k (e0, a)) (k' (e, a))) : AgR e0 e (r.bind k) (r'.bind k') := by
  cases r with
  | ok p =>
    obtain ⟨q, a⟩ := p
    obtain ⟨h1, h2⟩ := h
    have h1 : q = e0 := h1
    rw [h2, h1]
    exact hk a
  | rai c =>
    have h : r' = .rai c := h
    rw [h]
    exact (rfl : (R.rai c : RE β) = .rai c)
  | stuck => exact trivial
theorem AgR.pure {α : Type} {e0 e : LEnv} (a : α) : AgR e0 e (.ok (e0, a)) (.ok (e, a)) := ⟨rfl, rfl⟩
theorem AgR.lif {α : Type} {e0 e : LEnv} (r : R α) : AgR e0 e (lif e0 r) (lif e r) := by
  cases r with
  | ok a => exact ⟨rfl, rfl⟩
  | rai c => exact (rfl : (R.rai c : RE α) = .rai c)
  | stuck => exact trivial
theorem AgR.gd {α : Type} {e0 e : LEnv} {c : Bool} {r r' : RE α} (h : AgR e0 e r r') : AgR e0 e (gd c r) (gd c r') := by
  cases c with
  | true => exact h
  | false => exact trivial
theorem AgR.stuck {α : Type} {e0 e : LEnv} {r : RE α} : AgR e0 e .stuck r := trivial
class Lc (J : Nat → Bool) (jx : Nat) {α : Type} (f : LEnv → RE α) : Prop where
  run : ∀ e0 e, Ag J jx e0 e → AgR e0 e (f e0) (f e)
class JF (J : Nat → Bool) (i : Nat) : Prop where
  eq : J i = false
class JT (J : Nat → Bool) (jx i : Nat) : Prop where
  eq : J i = true
  ne : i ≠ jx
section
variable {J : Nat → Bool} {jx : Nat} {f g h : M} {ma : MA} {mt mu : MT} {e0 e : LEnv}
instance lc_c {d : PyData} : Lc J jx (mC d) := ⟨fun e0 e _ => .pure d⟩
instance lc_var {i : Nat} [JF J i] : Lc J jx (mVar i) := ⟨fun e0 e S => by
  unfold mVar
  rw [nth_eq, nth_eq]
  cases q : e0[i]? with
  | none => exact .stuck
  | some o =>
    cases o with
    | none => exact .stuck
    | some s =>
      rw [S.var i s JF.eq q]
      cases s with
      | sh d => exact .pure d
      | ow m ds => exact .stuck⟩
instance lc_op {op : PyData → PyData → R PyData} [Lc J jx f] [Lc J jx g] : Lc J jx (mOp op f g) := ⟨fun e0 e S => (Lc.run (f := f) e0 e S).bind fun a => (Lc.run (f := g) e0 e S).bind fun b => .lif _⟩
instance lc_un {op : PyData → R PyData} [Lc J jx f] : Lc J jx (mUn op f) := ⟨fun e0 e S => (Lc.run (f := f) e0 e S).bind fun a => .lif _⟩
instance lc_nil : Lc J jx maNil := ⟨fun e0 e _ => .pure []⟩
instance lc_cons [Lc J jx f] [Lc J jx ma] : Lc J jx (maCons f ma) := ⟨fun e0 e S => (Lc.run (f := f) e0 e S).bind fun a => (Lc.run (f := ma) e0 e S).bind fun b => .pure _⟩
instance lc_tup [Lc J jx ma] : Lc J jx (mTup ma) := ⟨fun e0 e S => (Lc.run (f := ma) e0 e S).bind fun a => .gd (.pure _)⟩
instance lc_lst [Lc J jx ma] : Lc J jx (mLst ma) := ⟨fun e0 e S => (Lc.run (f := ma) e0 e S).bind fun a => .gd (.pure _)⟩
instance lc_tB [Lc J jx f] : Lc J jx (mtB f) := ⟨fun e0 e S => (Lc.run (f := f) e0 e S).bind fun a => by
  cases a with
  | bool b => exact .pure b
  | _ => exact .stuck⟩
instance lc_tru [Lc J jx f] : Lc J jx (mtTru f) := ⟨fun e0 e S => (Lc.run (f := f) e0 e S).bind fun a => .lif _⟩
instance lc_and [Lc J jx mt] [Lc J jx mu] : Lc J jx (mtAnd mt mu) := ⟨fun e0 e S => (Lc.run (f := mt) e0 e S).bind fun a => by
  cases a with
  | true => exact Lc.run (f := mu) e0 e S
  | false => exact .pure _⟩
instance lc_or [Lc J jx mt] [Lc J jx mu] : Lc J jx (mtOr mt mu) := ⟨fun e0 e S => (Lc.run (f := mt) e0 e S).bind fun a => by
  cases a with
  | false => exact Lc.run (f := mu) e0 e S
  | true => exact .pure _⟩
instance lc_not [Lc J jx mt] : Lc J jx (mtNot mt) := ⟨fun e0 e S => (Lc.run (f := mt) e0 e S).bind fun a => .pure _⟩
instance lc_if [Lc J jx mt] [Lc J jx f] [Lc J jx g] : Lc J jx (mIf mt f g) := ⟨fun e0 e S => (Lc.run (f := mt) e0 e S).bind fun a => by
  cases a with
  | true => exact Lc.run (f := f) e0 e S
  | false => exact Lc.run (f := g) e0 e S⟩
instance lc_chain {o o' : PyData → PyData → R PyData} [Lc J jx f] [Lc J jx g] [Lc J jx h] : Lc J jx (mChain o o' f g h) := ⟨fun e0 e S => (Lc.run (f := f) e0 e S).bind fun a => (Lc.run (f := g) e0 e S).bind fun b => (AgR.lif _).bind fun z => by
  cases z with
  | bool c =>
    cases c with
    | true => exact (Lc.run (f := h) e0 e S).bind fun u => .lif _
    | false => exact .pure _
  | _ => exact .stuck⟩
instance lc_ca {op : List PyData → R PyData} [Lc J jx ma] : Lc J jx (mCa op ma) := ⟨fun e0 e S => (Lc.run (f := ma) e0 e S).bind fun a => .lif _⟩
instance lc_call {n : Nat} {run : List PyData → R PyData} [Lc J jx ma] : Lc J jx (mCall n run ma) := ⟨fun e0 e S => (Lc.run (f := ma) e0 e S).bind fun a => .gd (.lif _)⟩
instance lc_miR {rg : List PyData → R (List PyData)} [Lc J jx ma] : Lc J jx (miR rg ma) := ⟨fun e0 e S => (Lc.run (f := ma) e0 e S).bind fun a => .lif _⟩
instance lc_miSeq [Lc J jx f] : Lc J jx (miSeq f) := ⟨fun e0 e S => (Lc.run (f := f) e0 e S).bind fun a => .lif _⟩
instance lc_yes : Lc J jx mtYes := ⟨fun e0 e S => .pure true⟩
instance lc_ixV {i : Nat} [JF J i] [Lc J jx g] : Lc J jx (mIxV i g) := ⟨fun e0 e S => by
  unfold mIxV
  rw [nth_eq, nth_eq]
  cases q : e0[i]? with
  | none => exact .stuck
  | some o =>
    cases o with
    | none => exact .stuck
    | some s =>
      have q2 := S.var i s JF.eq q
      rw [q2]
      refine (Lc.run (f := g) e0 e S).bind fun a => ?_
      show AgR e0 e (match nth e0 i with | some (some (.sh d)) => lif e0 (iIx d a) | some (some (.ow _ ds)) => (match a with | .int k => lif e0 (ixD k ds) | _ => .stuck) | _ => .stuck) (match nth e i with | some (some (.sh d)) => lif e (iIx d a) | some (some (.ow _ ds)) => (match a with | .int k => lif e (ixD k ds) | _ => .stuck) | _ => .stuck)
      rw [nth_eq, nth_eq, q, q2]
      cases s with
      | sh d => exact .lif _
      | ow m ds =>
        cases a with
        | int k => exact .lif _
        | _ => exact .stuck⟩
instance (priority := high) lc_ixJ {i : Nat} [JT J jx i] : Lc J jx (mIxV i (mVar jx)) := ⟨fun e0 e S => by
  obtain ⟨l0, l, n0, n, h1, h2, h3, h4, h5⟩ := S.ix i (JT.eq jx) (JT.ne J)
  unfold mIxV mVar
  rw [nth_eq, nth_eq, nth_eq, nth_eq, h1, h2, h3, h4]
  show AgR e0 e (match nth e0 i with | some (some (.sh d)) => lif e0 (iIx d (.int (.ofNat n0))) | some (some (.ow _ ds)) => lif e0 (ixD (.ofNat n0) ds) | _ => .stuck) (match nth e i with | some (some (.sh d)) => lif e (iIx d (.int (.ofNat n))) | some (some (.ow _ ds)) => lif e (ixD (.ofNat n) ds) | _ => .stuck)
  rw [nth_eq, nth_eq, h1, h2]
  show AgR e0 e (lif e0 (match nth l0 n0 with | some d => .ok d | none => .stuck)) (lif e (match nth l n with | some d => .ok d | none => .stuck))
  rw [nth_eq, nth_eq]
  cases q : l0[n0]? with
  | none => exact .stuck
  | some d => rw [h5 d q]; exact .lif _⟩
/-! comprehensions over one name -/
theorem Ag.set {v : Nat} {x : Option Sl} (S : Ag J jx e0 e) (hv : J v = false) (hx : ∀ m ds, x ≠ some (.ow m ds)) : Ag J jx (e0.set v x) (e.set v x) where
  len := by rw [List.length_set, List.length_set, S.len]
  own0 := fun i m ds q => by
    by_cases z : v = i
    · subst z
      by_cases hl : v < e0.length
      · rw [List.getElem?_set_self hl] at q
        exact absurd (Option.some.inj q) (hx m ds)
      · rw [List.getElem?_eq_none (by rw [List.length_set]; omega)] at q; cases q
    · rw [List.getElem?_set_ne z] at q; exact S.own0 i m ds q
  own := fun i m ds q => by
    by_cases z : v = i
    · subst z
      by_cases hl : v < e.length
      · rw [List.getElem?_set_self hl] at q
        exact absurd (Option.some.inj q) (hx m ds)
      · rw [List.getElem?_eq_none (by rw [List.length_set]; omega)] at q; cases q
    · rw [List.getElem?_set_ne z] at q; exact S.own i m ds q
  var := fun i s hi q => by
    by_cases z : v = i
    · subst z
      by_cases hl : v < e0.length
      · rw [List.getElem?_set_self hl] at q
        rw [List.getElem?_set_self (by rw [← S.len]; exact hl)]; exact q
      · rw [List.getElem?_eq_none (by rw [List.length_set]; omega)] at q; cases q
    · rw [List.getElem?_set_ne z] at q ⊢; exact S.var i s hi q
  hj := S.hj
  ix := fun i hi hne => by
    have n1 : v ≠ i := fun z => by rw [z, hi] at hv; cases hv
    have n2 : v ≠ jx := fun z => by rw [z, S.hj i hi] at hv; cases hv
    rw [List.getElem?_set_ne n1, List.getElem?_set_ne n1, List.getElem?_set_ne n2, List.getElem?_set_ne n2]
    exact S.ix i hi hne
class Ne1 (v : Nat) : Prop where
  ne : v ≠ 1
theorem restore_self {e : LEnv} {v : Nat} (ho : ∀ (i : Nat) m ds, e[i]? = some (some (.ow m ds)) → i = 1) (hv : v ≠ 1) : restore e (wipeE e [v]) [v] = e := by
  show ((e.set v none).set v (keepSh (nth e v))) = e
  rw [List.set_set, nth_eq]
  by_cases hl : v < e.length
  · apply List.ext_getElem?
    intro j
    by_cases z : v = j
    · subst z
      rw [List.getElem?_set_self hl]
      cases q : e[v]? with
      | none => rw [List.getElem?_eq_none_iff] at q; omega
      | some o =>
        cases o with
        | none => rfl
        | some s =>
          cases s with
          | sh d => rfl
          | ow m ds => exact absurd (ho v m ds q) hv
    · rw [List.getElem?_set_ne z]
  · exact List.set_eq_of_length_le (by omega)
theorem AgR.noRai {α : Type} {r r' : RE α} (h : AgR e0 e r r') : AgR e0 e (noRai r) (noRai r') := by
  cases r with
  | ok p => obtain ⟨h1, h2⟩ := h; rw [h2]; exact ⟨h1, rfl⟩
  | rai c => exact .stuck
  | stuck => exact .stuck
theorem compL_ag {v : Nat} (hv : J v = false) [Lc J jx mt] [Lc J jx f] : ∀ (l : List PyData) (e0 e : LEnv), Ag J jx e0 e → e0 = e0.set v none → e = e.set v none → AgR e0 e (compL [v] (bName v) mt f l e0) (compL [v] (bName v) mt f l e)
  | [], e0, e, S, _, _ => .pure []
  | d :: r, e0, e, S, h0, h1 => by
    have S1 := S.set (x := some (.sh d)) hv (fun _ _ z => by cases z)
    have w0 : wipeE (e0.set v (some (.sh d))) [v] = e0 := by show (e0.set v (some (.sh d))).set v none = e0; rw [List.set_set]; exact h0.symm
    have w1 : wipeE (e.set v (some (.sh d))) [v] = e := by show (e.set v (some (.sh d))).set v none = e; rw [List.set_set]; exact h1.symm
    have ih := compL_ag hv r e0 e S h0 h1
    show AgR e0 e ((LW.noRai (mt (e0.set v (some (.sh d))))).bind _) ((LW.noRai (mt (e.set v (some (.sh d))))).bind _)
    have a := (Lc.run (f := mt) _ _ S1).noRai
    cases q : LW.noRai (mt (e0.set v (some (.sh d)))) with
    | ok p =>
      rw [q] at a
      obtain ⟨p1, b⟩ := p
      obtain ⟨a1, a2⟩ := a
      have a1 : p1 = e0.set v (some (.sh d)) := a1
      rw [a2, a1]
      cases b with
      | true =>
        show AgR e0 e ((LW.noRai (f (e0.set v (some (.sh d))))).bind _) ((LW.noRai (f (e.set v (some (.sh d))))).bind _)
        have c := (Lc.run (f := f) _ _ S1).noRai
        cases q2 : LW.noRai (f (e0.set v (some (.sh d)))) with
        | ok p =>
          rw [q2] at c
          obtain ⟨p2, y⟩ := p
          obtain ⟨c1, c2⟩ := c
          have c1 : p2 = e0.set v (some (.sh d)) := c1
          rw [c2, c1]
          show AgR e0 e ((compL [v] (bName v) mt f r (wipeE (e0.set v (some (.sh d))) [v])).bind _) ((compL [v] (bName v) mt f r (wipeE (e.set v (some (.sh d))) [v])).bind _)
          rw [w0, w1]
          exact ih.bind fun z => .pure _
        | rai c' => rw [q2] at c; exact (show AgR e0 e (R.rai c') _ from by have c : LW.noRai (f (e.set v (some (.sh d)))) = .rai c' := c; rw [c]; exact rfl)
        | stuck => exact .stuck
      | false =>
        show AgR e0 e (compL [v] (bName v) mt f r (wipeE (e0.set v (some (.sh d))) [v])) (compL [v] (bName v) mt f r (wipeE (e.set v (some (.sh d))) [v]))
        rw [w0, w1]
        exact ih
    | rai c' => rw [q] at a; exact (show AgR e0 e (R.rai c') _ from by have a : LW.noRai (mt (e.set v (some (.sh d)))) = .rai c' := a; rw [a]; exact rfl)
    | stuck => exact .stuck
instance lc_comp {v : Nat} [JF J v] [Ne1 v] [Lc J jx ma] [Lc J jx mt] [Lc J jx f] : Lc J jx (mComp [v] ma (bName v) mt f) := ⟨fun e0 e S => (Lc.run (f := ma) e0 e S).bind fun a => .gd (by
  have hv : J v = false := JF.eq
  have S1 := S.set (x := none) hv (fun _ _ z => by cases z)
  have c := compL_ag (mt := mt) (f := f) hv a _ _ S1 (by rw [List.set_set]) (by rw [List.set_set])
  show AgR e0 e ((compL [v] (bName v) mt f a (e0.set v none)).bind _) ((compL [v] (bName v) mt f a (e.set v none)).bind _)
  cases q : compL [v] (bName v) mt f a (e0.set v none) with
  | ok p =>
    rw [q] at c
    obtain ⟨p1, y⟩ := p
    obtain ⟨c1, c2⟩ := c
    have c1 : p1 = e0.set v none := c1
    rw [c2, c1]
    refine ⟨restore_self S.own0 Ne1.ne, ?_⟩
    show (R.ok (restore e (wipeE e [v]) [v], PyData.list y) : RE PyData) = .ok (e, .list y)
    rw [restore_self S.own Ne1.ne]
  | rai c' => rw [q] at c; have c : compL [v] (bName v) mt f a (e.set v none) = .rai c' := c; rw [c]; exact (rfl : (R.rai c' : RE PyData) = _)
  | stuck => exact .stuck)⟩
/-! statements by what their small state says -/
theorem if_no {cnd : MT} {a : MS} [Lc J jx cnd] (S : Ag J jx e0 e) {e1 : LEnv} (h : cnd e0 = .ok (e1, false)) : mIfS cnd a mNext e = .nx e := by
  have := Lc.run (f := cnd) e0 e S
  rw [h] at this
  unfold mIfS
  rw [this.2]
  rfl
theorem asg_by {i : Nat} [Lc J jx f] (S : Ag J jx e0 e) {e1 : LEnv} {d : PyData} (h : f e0 = .ok (e1, d)) : mAsg (bName i) f e = .nx (e.set i (some (.sh d))) := by
  have := Lc.run (f := f) e0 e S
  rw [h] at this
  unfold mAsg
  rw [this.2]
  rfl
end
end LW

namespace K1
open PySem PySem.Spec PyProof.Rows L2 LW
def top (i : Nat) : Stmt := PySem.Challenge.pw_luckwright_k01_exact_parts.main.body.getD i (.Pass ⟨0, 0, 0, 0⟩)
section
variable {P : Program} {w : World} {K : PySem.W.Frag} {mg : Str → Option Value} {base : Heap} {C : Cl}
abbrev s_law_told : Stmt := top 37
theorem sc_law_told : FnScope ["what"] ["what"] (defScope s_law_told) := ⟨rfl, rfl, rfl, by decide +kernel, rfl, by decide +kernel, by decide +kernel⟩
structure ToldI (P : Program) (w : World) (K : PySem.W.Frag) (mg : Str → Option Value) (base : Heap) (C : Cl) : Prop where
  ex : ∃ (lT : List (Addr × Str)) (g : Addr) (fdT : FuncData), ToldL K C nmT lT ∧ mg "_law_told" = some (.ref g) ∧ FunD K "_law_told" "_law_told" (defArgs s_law_told) (defBody s_law_told) (defScope s_law_told) [] [] g fdT ∧
    ∀ (cdg : Value) (A : Around) (outer : List PySem.Env) (s : Shared) (H : Hp), HdsOk (cxOf C8.CX0 P w K mg base ["what"] "_law_told" (defScope s_law_told) g cdg A outer s H C8.E0).nox (hdsOf (defBody s_law_told)) (hdL lT)

abbrev s_shared : Stmt := top 15
def m_shared : MS := (mRet (mCa cGcd (maCons (mVar 0) (maCons (mVar 1) maNil))))
def r_shared : List PyData → R PyData := runS 2 m_shared
theorem sc_shared : FnScope ["one", "other"] ["one", "other"] (defScope s_shared) := ⟨rfl, rfl, rfl, by decide +kernel, rfl, by decide +kernel, by decide +kernel⟩
theorem ok_shared {f : Addr} {fd : FuncData} (F : FunD K "shared" "shared" (defArgs s_shared) (defBody s_shared) (defScope s_shared) [] [] f fd) (gx : mg "shared" = some (.ref f)) (b_gcd : mg "gcd" = some (.builtin "math.gcd")) : FnI P w K mg base C 1 "shared" 2 r_shared := by
  have b : Binds K fd ["one", "other"] [] := FunD.bindsN F fun _ _ _ _ _ _ us hl => match us, hl with | [_, _], _ => rfl
  exact ⟨f, fd, ["one", "other"], fn_okD (N := ["one", "other"]) F sc_shared (by decide) (fun cdv A outer s H E hr => ⟨_,
   (b_one (s_ret (d_cf cr_gcd cas_gcd rfl b_gcd (d_cons (d_var 0) (d_cons (d_var 1) d_nil)))))⟩), gx, F.kp, b⟩

abbrev s_part : Stmt := top 16
def m_part : MS := (mSeq (mIfS (mtB (mOp iEq (mVar 1) (mC (.int 0)))) (mRai 1) mNext)
  (mSeq (mAsg (bName 2) (mCall 2 r_shared (maCons (mVar 0) (maCons (mVar 1) maNil))))
  (mSeq (mIfS (mtB (mOp (iCmp fun i j => decide (i < j)) (mVar 1) (mC (.int 0)))) (mAsg (bName 2) (mUn uNeg (mVar 2))) mNext)
  (mRet (mTup (maCons (mOp iDiv (mVar 0) (mVar 2)) (maCons (mOp iDiv (mVar 1) (mVar 2)) maNil)))))))
def r_part : List PyData → R PyData := runS 3 m_part
theorem sc_part : FnScope ["top", "low", "size"] ["top", "low"] (defScope s_part) := ⟨rfl, rfl, rfl, by decide +kernel, rfl, by decide +kernel, by decide +kernel⟩
theorem ok_part {f : Addr} {fd : FuncData} (F : FunD K "part" "part" (defArgs s_part) (defBody s_part) (defScope s_part) [.int 1] [] f fd) (gx : mg "part" = some (.ref f)) (F_shared : FnI P w K mg base C 1 "shared" 2 r_shared) (X_BadPart : ExI K mg C "BadPart" 1) : FnI P w K mg base C 2 "part" 2 r_part := by
  have b : Binds K fd ["top", "low"] [] := by
    obtain ⟨ds, v, b⟩ := FunD.binds1 (ps := ["top", "low"]) F 2 1 (by decide) rfl (fun T kV doc pm an cdv ct us its hu hi => by
      match us, hu, its, hi with | [_, _], _, [_], _ => exact ⟨_, rfl, rfl⟩)
    cases v; exact b
  obtain ⟨c_BadPart, e_BadPart⟩ := X_BadPart.ex
  exact ⟨f, fd, ["top", "low"], fn_okD (N := ["top", "low", "size"]) F sc_part (by decide) (fun cdv A outer s H E hr => ⟨_,
   (b_cons (s_if (t_eq hr.units (d_var 1) d_int) (b_one (s_rai rfl (takes_of rfl rfl rfl rfl) e_BadPart.q PySem.F.excBase_ValueError e_BadPart.g e_BadPart.k e_BadPart.r rfl e_BadPart.c)) b_nil)
    (b_cons (s_asg (d_call F_shared (hr.mono (by decide)) (takes_of rfl rfl rfl rfl) rfl (d_cons (d_var 0) (d_cons (d_var 1) d_nil))) (g_name 2 sc_part.nd))
    (b_cons (s_if (t_lt (d_var 1) d_int) (b_one (s_asg (d_neg (d_var 2)) (g_name 2 sc_part.nd))) b_nil)
    (b_one (s_ret (d_tup (d_cons (d_div (d_var 0) (d_var 2)) (d_cons (d_div (d_var 1) (d_var 2)) d_nil))))))))⟩), gx, F.kp, b⟩

abbrev s_plus : Stmt := top 17
def m_plus : MS := (mRet (mCall 2 r_part (maCons (mOp iAddA (mOp iMulA (mIxV 0 (mC (.int 0))) (mIxV 1 (mC (.int 1)))) (mOp iMulA (mIxV 1 (mC (.int 0))) (mIxV 0 (mC (.int 1))))) (maCons (mOp iMulA (mIxV 0 (mC (.int 1))) (mIxV 1 (mC (.int 1)))) maNil))))
def r_plus : List PyData → R PyData := runS 2 m_plus
theorem sc_plus : FnScope ["one", "other"] ["one", "other"] (defScope s_plus) := ⟨rfl, rfl, rfl, by decide +kernel, rfl, by decide +kernel, by decide +kernel⟩
theorem ok_plus {f : Addr} {fd : FuncData} (F : FunD K "plus" "plus" (defArgs s_plus) (defBody s_plus) (defScope s_plus) [] [] f fd) (gx : mg "plus" = some (.ref f)) (F_part : FnI P w K mg base C 2 "part" 2 r_part) : FnI P w K mg base C 3 "plus" 2 r_plus := by
  have b : Binds K fd ["one", "other"] [] := FunD.bindsN F fun _ _ _ _ _ _ us hl => match us, hl with | [_, _], _ => rfl
  exact ⟨f, fd, ["one", "other"], fn_okD (N := ["one", "other"]) F sc_plus (by decide) (fun cdv A outer s H E hr => ⟨_,
   (b_one (s_ret (d_call F_part (hr.mono (by decide)) (takes_of rfl rfl rfl rfl) rfl (d_cons (d_addA (d_mulA (d_ixV 0 d_int) (d_ixV 1 d_int)) (d_mulA (d_ixV 1 d_int) (d_ixV 0 d_int))) (d_cons (d_mulA (d_ixV 0 d_int) (d_ixV 1 d_int)) d_nil)))))⟩), gx, F.kp, b⟩

abbrev s_minus : Stmt := top 18
def m_minus : MS := (mRet (mCall 2 r_part (maCons (mOp iSub (mOp iMulA (mIxV 0 (mC (.int 0))) (mIxV 1 (mC (.int 1)))) (mOp iMulA (mIxV 1 (mC (.int 0))) (mIxV 0 (mC (.int 1))))) (maCons (mOp iMulA (mIxV 0 (mC (.int 1))) (mIxV 1 (mC (.int 1)))) maNil))))
def r_minus : List PyData → R PyData := runS 2 m_minus
theorem sc_minus : FnScope ["one", "other"] ["one", "other"] (defScope s_minus) := ⟨rfl, rfl, rfl, by decide +kernel, rfl, by decide +kernel, by decide +kernel⟩
theorem ok_minus {f : Addr} {fd : FuncData} (F : FunD K "minus" "minus" (defArgs s_minus) (defBody s_minus) (defScope s_minus) [] [] f fd) (gx : mg "minus" = some (.ref f)) (F_part : FnI P w K mg base C 2 "part" 2 r_part) : FnI P w K mg base C 3 "minus" 2 r_minus := by
  have b : Binds K fd ["one", "other"] [] := FunD.bindsN F fun _ _ _ _ _ _ us hl => match us, hl with | [_, _], _ => rfl
  exact ⟨f, fd, ["one", "other"], fn_okD (N := ["one", "other"]) F sc_minus (by decide) (fun cdv A outer s H E hr => ⟨_,
   (b_one (s_ret (d_call F_part (hr.mono (by decide)) (takes_of rfl rfl rfl rfl) rfl (d_cons (d_sub (d_mulA (d_ixV 0 d_int) (d_ixV 1 d_int)) (d_mulA (d_ixV 1 d_int) (d_ixV 0 d_int))) (d_cons (d_mulA (d_ixV 0 d_int) (d_ixV 1 d_int)) d_nil)))))⟩), gx, F.kp, b⟩

abbrev s_times : Stmt := top 19
def m_times : MS := (mRet (mCall 2 r_part (maCons (mOp iMulA (mIxV 0 (mC (.int 0))) (mIxV 1 (mC (.int 0)))) (maCons (mOp iMulA (mIxV 0 (mC (.int 1))) (mIxV 1 (mC (.int 1)))) maNil))))
def r_times : List PyData → R PyData := runS 2 m_times
theorem sc_times : FnScope ["one", "other"] ["one", "other"] (defScope s_times) := ⟨rfl, rfl, rfl, by decide +kernel, rfl, by decide +kernel, by decide +kernel⟩
theorem ok_times {f : Addr} {fd : FuncData} (F : FunD K "times" "times" (defArgs s_times) (defBody s_times) (defScope s_times) [] [] f fd) (gx : mg "times" = some (.ref f)) (F_part : FnI P w K mg base C 2 "part" 2 r_part) : FnI P w K mg base C 3 "times" 2 r_times := by
  have b : Binds K fd ["one", "other"] [] := FunD.bindsN F fun _ _ _ _ _ _ us hl => match us, hl with | [_, _], _ => rfl
  exact ⟨f, fd, ["one", "other"], fn_okD (N := ["one", "other"]) F sc_times (by decide) (fun cdv A outer s H E hr => ⟨_,
   (b_one (s_ret (d_call F_part (hr.mono (by decide)) (takes_of rfl rfl rfl rfl) rfl (d_cons (d_mulA (d_ixV 0 d_int) (d_ixV 1 d_int)) (d_cons (d_mulA (d_ixV 0 d_int) (d_ixV 1 d_int)) d_nil)))))⟩), gx, F.kp, b⟩

abbrev s_over : Stmt := top 20
def m_over : MS := (mRet (mCall 2 r_part (maCons (mOp iMulA (mIxV 0 (mC (.int 0))) (mIxV 1 (mC (.int 1)))) (maCons (mOp iMulA (mIxV 0 (mC (.int 1))) (mIxV 1 (mC (.int 0)))) maNil))))
def r_over : List PyData → R PyData := runS 2 m_over
theorem sc_over : FnScope ["one", "other"] ["one", "other"] (defScope s_over) := ⟨rfl, rfl, rfl, by decide +kernel, rfl, by decide +kernel, by decide +kernel⟩
theorem ok_over {f : Addr} {fd : FuncData} (F : FunD K "over" "over" (defArgs s_over) (defBody s_over) (defScope s_over) [] [] f fd) (gx : mg "over" = some (.ref f)) (F_part : FnI P w K mg base C 2 "part" 2 r_part) : FnI P w K mg base C 3 "over" 2 r_over := by
  have b : Binds K fd ["one", "other"] [] := FunD.bindsN F fun _ _ _ _ _ _ us hl => match us, hl with | [_, _], _ => rfl
  exact ⟨f, fd, ["one", "other"], fn_okD (N := ["one", "other"]) F sc_over (by decide) (fun cdv A outer s H E hr => ⟨_,
   (b_one (s_ret (d_call F_part (hr.mono (by decide)) (takes_of rfl rfl rfl rfl) rfl (d_cons (d_mulA (d_ixV 0 d_int) (d_ixV 1 d_int)) (d_cons (d_mulA (d_ixV 0 d_int) (d_ixV 1 d_int)) d_nil)))))⟩), gx, F.kp, b⟩

abbrev s_is_less : Stmt := top 21
def m_is_less : MS := (mRet (mOp (iCmp fun i j => decide (i < j)) (mOp iIx (mCall 2 r_minus (maCons (mVar 0) (maCons (mVar 1) maNil))) (mC (.int 0))) (mC (.int 0))))
def r_is_less : List PyData → R PyData := runS 2 m_is_less
theorem sc_is_less : FnScope ["one", "other"] ["one", "other"] (defScope s_is_less) := ⟨rfl, rfl, rfl, by decide +kernel, rfl, by decide +kernel, by decide +kernel⟩
theorem ok_is_less {f : Addr} {fd : FuncData} (F : FunD K "is_less" "is_less" (defArgs s_is_less) (defBody s_is_less) (defScope s_is_less) [] [] f fd) (gx : mg "is_less" = some (.ref f)) (F_minus : FnI P w K mg base C 3 "minus" 2 r_minus) : FnI P w K mg base C 4 "is_less" 2 r_is_less := by
  have b : Binds K fd ["one", "other"] [] := FunD.bindsN F fun _ _ _ _ _ _ us hl => match us, hl with | [_, _], _ => rfl
  exact ⟨f, fd, ["one", "other"], fn_okD (N := ["one", "other"]) F sc_is_less (by decide) (fun cdv A outer s H E hr => ⟨_,
   (b_one (s_ret (d_lt (d_ix (d_call F_minus (hr.mono (by decide)) (takes_of rfl rfl rfl rfl) rfl (d_cons (d_var 0) (d_cons (d_var 1) d_nil))) d_int) d_int)))⟩), gx, F.kp, b⟩

abbrev s_lesser : Stmt := top 22
def m_lesser : MS := (mSeq (mIfS (mtTru (mCall 2 r_is_less (maCons (mVar 1) (maCons (mVar 0) maNil)))) (mRet (mCallStar 2 r_part (mVar 1))) mNext)
  (mRet (mCallStar 2 r_part (mVar 0))))
def r_lesser : List PyData → R PyData := runS 2 m_lesser
theorem sc_lesser : FnScope ["one", "other"] ["one", "other"] (defScope s_lesser) := ⟨rfl, rfl, rfl, by decide +kernel, rfl, by decide +kernel, by decide +kernel⟩
theorem ok_lesser {f : Addr} {fd : FuncData} (F : FunD K "lesser" "lesser" (defArgs s_lesser) (defBody s_lesser) (defScope s_lesser) [] [] f fd) (gx : mg "lesser" = some (.ref f)) (F_is_less : FnI P w K mg base C 4 "is_less" 2 r_is_less) (F_part : FnI P w K mg base C 2 "part" 2 r_part) : FnI P w K mg base C 5 "lesser" 2 r_lesser := by
  have b : Binds K fd ["one", "other"] [] := FunD.bindsN F fun _ _ _ _ _ _ us hl => match us, hl with | [_, _], _ => rfl
  exact ⟨f, fd, ["one", "other"], fn_okD (N := ["one", "other"]) F sc_lesser (by decide) (fun cdv A outer s H E hr => ⟨_,
   (b_cons (s_if (t_tru (d_call F_is_less (hr.mono (by decide)) (takes_of rfl rfl rfl rfl) rfl (d_cons (d_var 1) (d_cons (d_var 0) d_nil)))) (b_one (s_ret (d_callStar F_part (hr.mono (by decide)) (takes_of rfl rfl rfl rfl) rfl (d_var 1)))) b_nil)
    (b_one (s_ret (d_callStar F_part (hr.mono (by decide)) (takes_of rfl rfl rfl rfl) rfl (d_var 0)))))⟩), gx, F.kp, b⟩

abbrev s_greater : Stmt := top 23
def m_greater : MS := (mSeq (mIfS (mtTru (mCall 2 r_is_less (maCons (mVar 0) (maCons (mVar 1) maNil)))) (mRet (mCallStar 2 r_part (mVar 1))) mNext)
  (mRet (mCallStar 2 r_part (mVar 0))))
def r_greater : List PyData → R PyData := runS 2 m_greater
theorem sc_greater : FnScope ["one", "other"] ["one", "other"] (defScope s_greater) := ⟨rfl, rfl, rfl, by decide +kernel, rfl, by decide +kernel, by decide +kernel⟩
theorem ok_greater {f : Addr} {fd : FuncData} (F : FunD K "greater" "greater" (defArgs s_greater) (defBody s_greater) (defScope s_greater) [] [] f fd) (gx : mg "greater" = some (.ref f)) (F_is_less : FnI P w K mg base C 4 "is_less" 2 r_is_less) (F_part : FnI P w K mg base C 2 "part" 2 r_part) : FnI P w K mg base C 5 "greater" 2 r_greater := by
  have b : Binds K fd ["one", "other"] [] := FunD.bindsN F fun _ _ _ _ _ _ us hl => match us, hl with | [_, _], _ => rfl
  exact ⟨f, fd, ["one", "other"], fn_okD (N := ["one", "other"]) F sc_greater (by decide) (fun cdv A outer s H E hr => ⟨_,
   (b_cons (s_if (t_tru (d_call F_is_less (hr.mono (by decide)) (takes_of rfl rfl rfl rfl) rfl (d_cons (d_var 0) (d_cons (d_var 1) d_nil)))) (b_one (s_ret (d_callStar F_part (hr.mono (by decide)) (takes_of rfl rfl rfl rfl) rfl (d_var 1)))) b_nil)
    (b_one (s_ret (d_callStar F_part (hr.mono (by decide)) (takes_of rfl rfl rfl rfl) rfl (d_var 0)))))⟩), gx, F.kp, b⟩

abbrev s_total : Stmt := top 24
def m_total : MS := (mSeq (mAsg (bName 1) (mC (.tuple [.int (0), .int (1)])))
  (mSeq (mFor (miSeq (mVar 0)) (bName 2) (mAsg (bName 1) (mCall 2 r_plus (maCons (mVar 1) (maCons (mVar 2) maNil)))))
  (mRet (mVar 1))))
def r_total : List PyData → R PyData := runS 3 m_total
theorem sc_total : FnScope ["parts", "found", "one"] ["parts"] (defScope s_total) := ⟨rfl, rfl, rfl, by decide +kernel, rfl, by decide +kernel, by decide +kernel⟩
theorem ok_total {f : Addr} {fd : FuncData} (F : FunD K "total" "total" (defArgs s_total) (defBody s_total) (defScope s_total) [] [] f fd) (gx : mg "total" = some (.ref f)) (F_plus : FnI P w K mg base C 3 "plus" 2 r_plus) {a_NOUGHT : Addr} (g_NOUGHT : mg "NOUGHT" = some (.ref a_NOUGHT)) (t_NOUGHT : TupK K a_NOUGHT [.int (0), .int (1)]) : FnI P w K mg base C 4 "total" 1 r_total := by
  have b : Binds K fd ["parts"] [] := FunD.bindsN F fun _ _ _ _ _ _ us hl => match us, hl with | [_], _ => rfl
  exact ⟨f, fd, ["parts"], fn_okD (N := ["parts", "found", "one"]) F sc_total (by decide) (fun cdv A outer s H E hr => ⟨_,
   (b_cons (s_asg (d_glob g_NOUGHT t_NOUGHT rfl) (g_name 1 sc_total.nd))
    (b_cons (s_for (passes_of rfl) rfl (i_seq (d_var 0)) (g_name 2 sc_total.nd) (b_one (s_asg (d_call F_plus (hr.mono (by decide)) (takes_of rfl rfl rfl rfl) rfl (d_cons (d_var 1) (d_cons (d_var 2) d_nil))) (g_name 1 sc_total.nd))))
    (b_one (s_ret (d_var 1)))))⟩), gx, F.kp, b⟩

abbrev s_product : Stmt := top 25
def m_product : MS := (mSeq (mAsg (bName 1) (mC (.tuple [.int (1), .int (1)])))
  (mSeq (mFor (miSeq (mVar 0)) (bName 2) (mAsg (bName 1) (mCall 2 r_times (maCons (mVar 1) (maCons (mVar 2) maNil)))))
  (mRet (mVar 1))))
def r_product : List PyData → R PyData := runS 3 m_product
theorem sc_product : FnScope ["parts", "found", "one"] ["parts"] (defScope s_product) := ⟨rfl, rfl, rfl, by decide +kernel, rfl, by decide +kernel, by decide +kernel⟩
theorem ok_product {f : Addr} {fd : FuncData} (F : FunD K "product" "product" (defArgs s_product) (defBody s_product) (defScope s_product) [] [] f fd) (gx : mg "product" = some (.ref f)) (F_times : FnI P w K mg base C 3 "times" 2 r_times) {a_ONE : Addr} (g_ONE : mg "ONE" = some (.ref a_ONE)) (t_ONE : TupK K a_ONE [.int (1), .int (1)]) : FnI P w K mg base C 4 "product" 1 r_product := by
  have b : Binds K fd ["parts"] [] := FunD.bindsN F fun _ _ _ _ _ _ us hl => match us, hl with | [_], _ => rfl
  exact ⟨f, fd, ["parts"], fn_okD (N := ["parts", "found", "one"]) F sc_product (by decide) (fun cdv A outer s H E hr => ⟨_,
   (b_cons (s_asg (d_glob g_ONE t_ONE rfl) (g_name 1 sc_product.nd))
    (b_cons (s_for (passes_of rfl) rfl (i_seq (d_var 0)) (g_name 2 sc_product.nd) (b_one (s_asg (d_call F_times (hr.mono (by decide)) (takes_of rfl rfl rfl rfl) rfl (d_cons (d_var 1) (d_cons (d_var 2) d_nil))) (g_name 1 sc_product.nd))))
    (b_one (s_ret (d_var 1)))))⟩), gx, F.kp, b⟩

abbrev s_raised : Stmt := top 27
def m_raised : MS := (mSeq (mIfS (mtB (mOp (iCmp fun i j => decide (i < j)) (mVar 1) (mC (.int 0)))) (mRai 1) mNext)
  (mSeq (mAsg (bName 2) (mC (.int 1)))
  (mSeq (mWhile 64 (mtB (mOp (iCmp fun i j => decide (j < i)) (mVar 1) (mC (.int 0)))) (mSeq (mIfS (mtTru (mOp iAnd (mVar 1) (mC (.int 1)))) (mAsg (bName 2) (mOp iMulA (mVar 2) (mVar 0))) mNext)
  (mSeq (mAsg (bName 0) (mOp iMulA (mVar 0) (mVar 0)))
  (mAsg (bName 1) (mOp iDiv (mVar 1) (mC (.int 2)))))))
  (mRet (mVar 2)))))
def r_raised : List PyData → R PyData := runS 3 m_raised
theorem sc_raised : FnScope ["number", "count", "found"] ["number", "count"] (defScope s_raised) := ⟨rfl, rfl, rfl, by decide +kernel, rfl, by decide +kernel, by decide +kernel⟩
theorem ok_raised {f : Addr} {fd : FuncData} (F : FunD K "raised" "raised" (defArgs s_raised) (defBody s_raised) (defScope s_raised) [] [] f fd) (gx : mg "raised" = some (.ref f)) (X_BadPart : ExI K mg C "BadPart" 1) : FnI P w K mg base C 1 "raised" 2 r_raised := by
  have b : Binds K fd ["number", "count"] [] := FunD.bindsN F fun _ _ _ _ _ _ us hl => match us, hl with | [_, _], _ => rfl
  obtain ⟨c_BadPart, e_BadPart⟩ := X_BadPart.ex
  exact ⟨f, fd, ["number", "count"], fn_okD (N := ["number", "count", "found"]) F sc_raised (by decide) (fun cdv A outer s H E hr => ⟨_,
   (b_cons (s_if (t_lt (d_var 1) d_int) (b_one (s_rai rfl (takes_of rfl rfl rfl rfl) e_BadPart.q PySem.F.excBase_ValueError e_BadPart.g e_BadPart.k e_BadPart.r rfl e_BadPart.c)) b_nil)
    (b_cons (s_asg d_int (g_name 2 sc_raised.nd))
    (b_cons (s_while 64 (passes_of rfl) (t_gt (d_var 1) d_int) (b_cons (s_if (t_tru (d_and (d_var 1) d_int)) (b_one (s_asg (d_mulA (d_var 2) (d_var 0)) (g_name 2 sc_raised.nd))) b_nil)
    (b_cons (s_asg (d_mulA (d_var 0) (d_var 0)) (g_name 0 sc_raised.nd))
    (b_one (s_asg (d_div (d_var 1) d_int) (g_name 1 sc_raised.nd))))))
    (b_one (s_ret (d_var 2))))))⟩), gx, F.kp, b⟩

abbrev s_power : Stmt := top 26
def m_power : MS := (mRet (mCall 2 r_part (maCons (mCall 2 r_raised (maCons (mIxV 0 (mC (.int 0))) (maCons (mVar 1) maNil))) (maCons (mCall 2 r_raised (maCons (mIxV 0 (mC (.int 1))) (maCons (mVar 1) maNil))) maNil))))
def r_power : List PyData → R PyData := runS 2 m_power
theorem sc_power : FnScope ["one", "count"] ["one", "count"] (defScope s_power) := ⟨rfl, rfl, rfl, by decide +kernel, rfl, by decide +kernel, by decide +kernel⟩
theorem ok_power {f : Addr} {fd : FuncData} (F : FunD K "power" "power" (defArgs s_power) (defBody s_power) (defScope s_power) [] [] f fd) (gx : mg "power" = some (.ref f)) (F_part : FnI P w K mg base C 2 "part" 2 r_part) (F_raised : FnI P w K mg base C 1 "raised" 2 r_raised) : FnI P w K mg base C 3 "power" 2 r_power := by
  have b : Binds K fd ["one", "count"] [] := FunD.bindsN F fun _ _ _ _ _ _ us hl => match us, hl with | [_, _], _ => rfl
  exact ⟨f, fd, ["one", "count"], fn_okD (N := ["one", "count"]) F sc_power (by decide) (fun cdv A outer s H E hr => ⟨_,
   (b_one (s_ret (d_call F_part (hr.mono (by decide)) (takes_of rfl rfl rfl rfl) rfl (d_cons (d_call F_raised (hr.mono (by decide)) (takes_of rfl rfl rfl rfl) rfl (d_cons (d_ixV 0 d_int) (d_cons (d_var 1) d_nil))) (d_cons (d_call F_raised (hr.mono (by decide)) (takes_of rfl rfl rfl rfl) rfl (d_cons (d_ixV 0 d_int) (d_cons (d_var 1) d_nil))) d_nil)))))⟩), gx, F.kp, b⟩

abbrev s_check_chance : Stmt := top 28
def m_check_chance : MS := (mSeq (mAsg (bName 1) (mCall 2 r_part (maCons (mIxV 0 (mC (.int 0))) (maCons (mIxV 0 (mC (.int 1))) maNil))))
  (mSeq (mIfS (mtOr (mtB (mOp (iCmp fun i j => decide (i < j)) (mIxV 1 (mC (.int 0))) (mC (.int 0)))) (mtB (mOp (iCmp fun i j => decide (j < i)) (mIxV 1 (mC (.int 0))) (mIxV 1 (mC (.int 1)))))) (mRai 1) mNext)
  (mRet (mVar 1))))
def r_check_chance : List PyData → R PyData := runS 2 m_check_chance
theorem sc_check_chance : FnScope ["one", "found"] ["one"] (defScope s_check_chance) := ⟨rfl, rfl, rfl, by decide +kernel, rfl, by decide +kernel, by decide +kernel⟩
theorem ok_check_chance {f : Addr} {fd : FuncData} (F : FunD K "check_chance" "check_chance" (defArgs s_check_chance) (defBody s_check_chance) (defScope s_check_chance) [] [] f fd) (gx : mg "check_chance" = some (.ref f)) (F_part : FnI P w K mg base C 2 "part" 2 r_part) (X_BadPart : ExI K mg C "BadPart" 1) : FnI P w K mg base C 3 "check_chance" 1 r_check_chance := by
  have b : Binds K fd ["one"] [] := FunD.bindsN F fun _ _ _ _ _ _ us hl => match us, hl with | [_], _ => rfl
  obtain ⟨c_BadPart, e_BadPart⟩ := X_BadPart.ex
  exact ⟨f, fd, ["one"], fn_okD (N := ["one", "found"]) F sc_check_chance (by decide) (fun cdv A outer s H E hr => ⟨_,
   (b_cons (s_asg (d_call F_part (hr.mono (by decide)) (takes_of rfl rfl rfl rfl) rfl (d_cons (d_ixV 0 d_int) (d_cons (d_ixV 0 d_int) d_nil))) (g_name 1 sc_check_chance.nd))
    (b_cons (s_if (t_w (w_or (t_lt (d_ixV 1 d_int) d_int) (w_or1 (t_gt (d_ixV 1 d_int) (d_ixV 1 d_int))))) (b_one (s_rai rfl (takes_of rfl rfl rfl rfl) e_BadPart.q PySem.F.excBase_ValueError e_BadPart.g e_BadPart.k e_BadPart.r rfl e_BadPart.c)) b_nil)
    (b_one (s_ret (d_var 1)))))⟩), gx, F.kp, b⟩

abbrev s_other_way : Stmt := top 29
def m_other_way : MS := (mRet (mCall 2 r_minus (maCons (mC (.tuple [.int (1), .int (1)])) (maCons (mVar 0) maNil))))
def r_other_way : List PyData → R PyData := runS 1 m_other_way
theorem sc_other_way : FnScope ["one"] ["one"] (defScope s_other_way) := ⟨rfl, rfl, rfl, by decide +kernel, rfl, by decide +kernel, by decide +kernel⟩
theorem ok_other_way {f : Addr} {fd : FuncData} (F : FunD K "other_way" "other_way" (defArgs s_other_way) (defBody s_other_way) (defScope s_other_way) [] [] f fd) (gx : mg "other_way" = some (.ref f)) (F_minus : FnI P w K mg base C 3 "minus" 2 r_minus) {a_ONE : Addr} (g_ONE : mg "ONE" = some (.ref a_ONE)) (t_ONE : TupK K a_ONE [.int (1), .int (1)]) : FnI P w K mg base C 4 "other_way" 1 r_other_way := by
  have b : Binds K fd ["one"] [] := FunD.bindsN F fun _ _ _ _ _ _ us hl => match us, hl with | [_], _ => rfl
  exact ⟨f, fd, ["one"], fn_okD (N := ["one"]) F sc_other_way (by decide) (fun cdv A outer s H E hr => ⟨_,
   (b_one (s_ret (d_call F_minus (hr.mono (by decide)) (takes_of rfl rfl rfl rfl) rfl (d_cons (d_glob g_ONE t_ONE rfl) (d_cons (d_var 0) d_nil)))))⟩), gx, F.kp, b⟩

abbrev s_least_of : Stmt := top 30
def m_least_of : MS := (mSeq (mIfS (mtB (mOp iEq (mCa cLen (maCons (mVar 0) maNil)) (mC (.int 0)))) (mRai 1) mNext)
  (mSeq (mAsg (bName 1) (mIxV 0 (mC (.int 0))))
  (mSeq (mFor (miSeq (mVar 0)) (bName 2) (mAsg (bName 1) (mCall 2 r_lesser (maCons (mVar 1) (maCons (mVar 2) maNil)))))
  (mRet (mVar 1)))))
def r_least_of : List PyData → R PyData := runS 3 m_least_of
theorem sc_least_of : FnScope ["parts", "found", "one"] ["parts"] (defScope s_least_of) := ⟨rfl, rfl, rfl, by decide +kernel, rfl, by decide +kernel, by decide +kernel⟩
theorem ok_least_of {f : Addr} {fd : FuncData} (F : FunD K "least_of" "least_of" (defArgs s_least_of) (defBody s_least_of) (defScope s_least_of) [] [] f fd) (gx : mg "least_of" = some (.ref f)) (F_lesser : FnI P w K mg base C 5 "lesser" 2 r_lesser) (X_BadPart : ExI K mg C "BadPart" 1) (n_len : mg "len" = none) : FnI P w K mg base C 6 "least_of" 1 r_least_of := by
  have b : Binds K fd ["parts"] [] := FunD.bindsN F fun _ _ _ _ _ _ us hl => match us, hl with | [_], _ => rfl
  obtain ⟨c_BadPart, e_BadPart⟩ := X_BadPart.ex
  exact ⟨f, fd, ["parts"], fn_okD (N := ["parts", "found", "one"]) F sc_least_of (by decide) (fun cdv A outer s H E hr => ⟨_,
   (b_cons (s_if (t_eq hr.units (d_cb call_len_seq cas_len rfl n_len PySem.boot_len (d_cons (d_var 0) d_nil)) d_int) (b_one (s_rai rfl (takes_of rfl rfl rfl rfl) e_BadPart.q PySem.F.excBase_ValueError e_BadPart.g e_BadPart.k e_BadPart.r rfl e_BadPart.c)) b_nil)
    (b_cons (s_asg (d_ixV 0 d_int) (g_name 1 sc_least_of.nd))
    (b_cons (s_for (passes_of rfl) rfl (i_seq (d_var 0)) (g_name 2 sc_least_of.nd) (b_one (s_asg (d_call F_lesser (hr.mono (by decide)) (takes_of rfl rfl rfl rfl) rfl (d_cons (d_var 1) (d_cons (d_var 2) d_nil))) (g_name 1 sc_least_of.nd))))
    (b_one (s_ret (d_var 1))))))⟩), gx, F.kp, b⟩

abbrev s_greatest_of : Stmt := top 31
def m_greatest_of : MS := (mSeq (mIfS (mtB (mOp iEq (mCa cLen (maCons (mVar 0) maNil)) (mC (.int 0)))) (mRai 1) mNext)
  (mSeq (mAsg (bName 1) (mIxV 0 (mC (.int 0))))
  (mSeq (mFor (miSeq (mVar 0)) (bName 2) (mAsg (bName 1) (mCall 2 r_greater (maCons (mVar 1) (maCons (mVar 2) maNil)))))
  (mRet (mVar 1)))))
def r_greatest_of : List PyData → R PyData := runS 3 m_greatest_of
theorem sc_greatest_of : FnScope ["parts", "found", "one"] ["parts"] (defScope s_greatest_of) := ⟨rfl, rfl, rfl, by decide +kernel, rfl, by decide +kernel, by decide +kernel⟩
theorem ok_greatest_of {f : Addr} {fd : FuncData} (F : FunD K "greatest_of" "greatest_of" (defArgs s_greatest_of) (defBody s_greatest_of) (defScope s_greatest_of) [] [] f fd) (gx : mg "greatest_of" = some (.ref f)) (F_greater : FnI P w K mg base C 5 "greater" 2 r_greater) (X_BadPart : ExI K mg C "BadPart" 1) (n_len : mg "len" = none) : FnI P w K mg base C 6 "greatest_of" 1 r_greatest_of := by
  have b : Binds K fd ["parts"] [] := FunD.bindsN F fun _ _ _ _ _ _ us hl => match us, hl with | [_], _ => rfl
  obtain ⟨c_BadPart, e_BadPart⟩ := X_BadPart.ex
  exact ⟨f, fd, ["parts"], fn_okD (N := ["parts", "found", "one"]) F sc_greatest_of (by decide) (fun cdv A outer s H E hr => ⟨_,
   (b_cons (s_if (t_eq hr.units (d_cb call_len_seq cas_len rfl n_len PySem.boot_len (d_cons (d_var 0) d_nil)) d_int) (b_one (s_rai rfl (takes_of rfl rfl rfl rfl) e_BadPart.q PySem.F.excBase_ValueError e_BadPart.g e_BadPart.k e_BadPart.r rfl e_BadPart.c)) b_nil)
    (b_cons (s_asg (d_ixV 0 d_int) (g_name 1 sc_greatest_of.nd))
    (b_cons (s_for (passes_of rfl) rfl (i_seq (d_var 0)) (g_name 2 sc_greatest_of.nd) (b_one (s_asg (d_call F_greater (hr.mono (by decide)) (takes_of rfl rfl rfl rfl) rfl (d_cons (d_var 1) (d_cons (d_var 2) d_nil))) (g_name 1 sc_greatest_of.nd))))
    (b_one (s_ret (d_var 1))))))⟩), gx, F.kp, b⟩

abbrev s_told : Stmt := top 32
def m_told : MS := (mSeq (mAsg (bTup 2 (bCons (bName 1) (bCons (bName 2) bNil))) (mCallStar 2 r_part (mVar 0)))
  (mSeq (mIfS (mtB (mOp iEq (mVar 2) (mC (.int 1)))) (mRet (mCa cStr (maCons (mVar 1) maNil))) mNext)
  (mRet (mJoin [(mFmt (mVar 1)), (mC (.str (PySem.Str.ofString "/"))), (mFmt (mVar 2))]))))
def r_told : List PyData → R PyData := runS 3 m_told
theorem sc_told : FnScope ["one", "top", "low"] ["one"] (defScope s_told) := ⟨rfl, rfl, rfl, by decide +kernel, rfl, by decide +kernel, by decide +kernel⟩
theorem ok_told {f : Addr} {fd : FuncData} (F : FunD K "told" "told" (defArgs s_told) (defBody s_told) (defScope s_told) [] [] f fd) (gx : mg "told" = some (.ref f)) (F_part : FnI P w K mg base C 2 "part" 2 r_part) (n_str : mg "str" = none) : FnI P w K mg base C 3 "told" 1 r_told := by
  have b : Binds K fd ["one"] [] := FunD.bindsN F fun _ _ _ _ _ _ us hl => match us, hl with | [_], _ => rfl
  exact ⟨f, fd, ["one"], fn_okD (N := ["one", "top", "low"]) F sc_told (by decide) (fun cdv A outer s H E hr => ⟨_,
   (b_cons (s_asg (d_callStar F_part (hr.mono (by decide)) (takes_of rfl rfl rfl rfl) rfl (d_var 0)) (g_tup rfl (g_cons (g_name 1 sc_told.nd) (g_cons (g_name 2 sc_told.nd) g_nil))))
    (b_cons (s_if (t_eq hr.units (d_var 2) d_int) (b_one (s_ret (d_ct call_str_int cas_str rfl n_str (by decide +kernel) (d_cons (d_var 1) d_nil)))) b_nil)
    (b_one (s_ret (d_joined (j_cons (d_fmt (d_var 1)) (j_cons d_str (j_cons (d_fmt (d_var 2)) j_nil))))))))⟩), gx, F.kp, b⟩

abbrev s_law_dice : Stmt := top 34
def m_law_dice : MS := (mSeq (mIfS (mtB (mChain (iCmp fun i j => decide (i < j)) (iCmp fun i j => decide (i < j)) (mOp iSub (mC (.int 0)) (mC (.int 10))) (mVar 0) (mC (.int 10)))) (mRet (mLst (maCons (mCa cAbs (maCons (mVar 0) maNil)) (maCons (mC (.int 0)) (maCons (mC (.int 2)) maNil))))) mNext)
  (mRet (mLst (maCons (mVar 0) (maCons (mOp iAddA (mC (.int 1)) (mOp iMod (mCa cInt (maCons (mVar 0) maNil)) (mC (.int 1009)))) (maCons (mCa cInt (maCons (mOp (iCmp fun i j => decide (j ≤ i)) (mVar 0) (mOp iPow (mC (.int 10)) (mC (.int 18)))) maNil)) maNil))))))
def r_law_dice : List PyData → R PyData := runS 1 m_law_dice
theorem sc_law_dice : FnScope ["cell"] ["cell"] (defScope s_law_dice) := ⟨rfl, rfl, rfl, by decide +kernel, rfl, by decide +kernel, by decide +kernel⟩
theorem ok_law_dice {f : Addr} {fd : FuncData} (F : FunD K "_law_dice" "_law_dice" (defArgs s_law_dice) (defBody s_law_dice) (defScope s_law_dice) [] [] f fd) (gx : mg "_law_dice" = some (.ref f)) (n_abs : mg "abs" = none) (n_int : mg "int" = none) : FnI P w K mg base C 1 "_law_dice" 1 r_law_dice := by
  have b : Binds K fd ["cell"] [] := FunD.bindsN F fun _ _ _ _ _ _ us hl => match us, hl with | [_], _ => rfl
  exact ⟨f, fd, ["cell"], fn_okD (N := ["cell"]) F sc_law_dice (by decide) (fun cdv A outer s H E hr => ⟨_,
   (b_cons (s_if (t_chain op_lt ops_cmp op_lt ops_cmp (d_sub d_int d_int) (d_var 0) d_int) (b_one (s_ret (d_lst (d_cons (d_cb call_abs cas_abs rfl n_abs (by decide +kernel) (d_cons (d_var 0) d_nil)) (d_cons d_int (d_cons d_int d_nil)))))) b_nil)
    (b_one (s_ret (d_lst (d_cons (d_var 0) (d_cons (d_addA d_int (d_mod (d_ct call_int1 cas_int rfl n_int (by decide +kernel) (d_cons (d_var 0) d_nil)) d_int)) (d_cons (d_ct call_int1 cas_int rfl n_int (by decide +kernel) (d_cons (d_ge (d_var 0) (d_pow d_int d_int)) d_nil)) d_nil)))))))⟩), gx, F.kp, b⟩

abbrev s_law_roll : Stmt := top 35
def m_law_roll : MS := (mSeq (mIfS (mtOr (mtB (mOp iEq (mIxV 0 (mC (.int 2))) (mC (.int 2)))) (mtAnd (mtB (mOp iEq (mIxV 0 (mC (.int 2))) (mC (.int 1)))) (mtB (mOp (iCmp fun i j => decide (j < i)) (mIxV 0 (mC (.int 0))) (mC (.int 0)))))) (mSeq (mAsg (bName 2) (mOp iMod (mCa cInt (maCons (mIxV 0 (mC (.int 0))) maNil)) (mVar 1)))
  (mSeq (mSetV 0 (mC (.int 0)) (mOp iDiv (mIxV 0 (mC (.int 0))) (mVar 1)))
  (mRet (mVar 2)))) mNext)
  (mSeq (mSetV 0 (mC (.int 2)) (mC (.int 0)))
  (mSeq (mSetV 0 (mC (.int 0)) (mOp iMod (mCa cInt (maCons (mOp iAddA (mOp iAddA (mOp iMulA (mIxV 0 (mC (.int 0))) (mC (.int 48271))) (mOp iMulA (mIxV 0 (mC (.int 1))) (mC (.int 69621)))) (mC (.int 11))) maNil)) (mC (.int 2147483647))))
  (mSeq (mSetV 0 (mC (.int 1)) (mOp iAddA (mIxV 0 (mC (.int 1))) (mC (.int 1))))
  (mRet (mOp iMod (mCa cInt (maCons (mOp iAddA (mOp iDiv (mIxV 0 (mC (.int 0))) (mC (.int 7))) (mIxV 0 (mC (.int 0)))) maNil)) (mVar 1)))))))
def r_law_roll : RunM := runM 3 m_law_roll
theorem sc_law_roll : FnScope ["dice", "many", "found"] ["dice", "many"] (defScope s_law_roll) := ⟨rfl, rfl, rfl, by decide +kernel, rfl, by decide +kernel, by decide +kernel⟩
theorem ok_law_roll {f : Addr} {fd : FuncData} (F : FunD K "_law_roll" "_law_roll" (defArgs s_law_roll) (defBody s_law_roll) (defScope s_law_roll) [] [] f fd) (gx : mg "_law_roll" = some (.ref f)) (n_int : mg "int" = none) : FnM P w K mg base C 1 "_law_roll" 1 r_law_roll := by
  have b : Binds K fd ["dice", "many"] [] := FunD.bindsN F fun _ _ _ _ _ _ us hl => match us, hl with | [_, _], _ => rfl
  exact ⟨f, fd, ["dice", "many"], fn_okM (N := ["many", "found"]) F sc_law_roll (by decide) rfl (fun cdv A outer s H E hr => ⟨_,
   (b_cons (s_if (t_w (w_or (t_eq hr.units (d_ixV 0 d_int) d_int) (w_or1 (t_w (w_and (t_eq hr.units (d_ixV 0 d_int) d_int) (w_and1 (t_gt (d_ixV 0 d_int) d_int))))))) (b_cons (s_asg (d_mod (d_ct call_int1 cas_int rfl n_int (by decide +kernel) (d_cons (d_ixV 0 d_int) d_nil)) (d_var 1)) (g_name 2 sc_law_roll.nd))
    (b_cons (s_setV 0 (d_div (d_ixV 0 d_int) (d_var 1)) d_int)
    (b_one (s_ret (d_var 2))))) b_nil)
    (b_cons (s_setV 0 d_int d_int)
    (b_cons (s_setV 0 (d_mod (d_ct call_int1 cas_int rfl n_int (by decide +kernel) (d_cons (d_addA (d_addA (d_mulA (d_ixV 0 d_int) d_int) (d_mulA (d_ixV 0 d_int) d_int)) d_int) d_nil)) d_int) d_int)
    (b_cons (s_setV 0 (d_addA (d_ixV 0 d_int) d_int) d_int)
    (b_one (s_ret (d_mod (d_ct call_int1 cas_int rfl n_int (by decide +kernel) (d_cons (d_addA (d_div (d_ixV 0 d_int) d_int) (d_ixV 0 d_int)) d_nil)) (d_var 1))))))))⟩), gx, F.kp, b⟩

end
end K1

namespace K1
open PySem PySem.Spec PyProof.Rows L2 LW
section
variable {P : Program} {w : World} {K : PySem.W.Frag} {mg : Str → Option Value} {base : Heap} {C : Cl}
abbrev s_law : Stmt := top 38
def m_law : MS := (mSeq (mAsg (bName 3) (mComp [5] (miR rg1 (maCons (mOp iAddA (mC (.int 2)) (mCallM 1 r_law_roll 1 (maCons (mC (.int 5)) maNil))) maNil)) (bName 5) mtYes (mTup (maCons (mOp iSub (mCallM 1 r_law_roll 1 (maCons (mC (.int 19)) maNil)) (mC (.int 9))) (maCons (mOp iAddA (mC (.int 1)) (mCallM 1 r_law_roll 1 (maCons (mC (.int 6)) maNil))) maNil)))))
  (mSeq (mAsg (bName 4) (mComp [14, 15] (miSeq (mVar 3)) (bTup 2 (bCons (bName 14) (bCons (bName 15) bNil))) mtYes (mCall 2 r_part (maCons (mVar 14) (maCons (mVar 15) maNil)))))
  (mSeq (mFor (miR rg1 (maCons (mCa cLen (maCons (mVar 3) maNil)) maNil)) (bName 5) (mSeq (mAsg (bTup 2 (bCons (bName 14) (bCons (bName 15) bNil))) (mIxV 4 (mVar 5)))
  (mIfS (mtOr (mtB (mOp iNe (mOp iMulA (mVar 14) (mOp iIx (mIxV 3 (mVar 5)) (mC (.int 1)))) (mOp iMulA (mOp iIx (mIxV 3 (mVar 5)) (mC (.int 0))) (mVar 15)))) (mtOr (mtB (mOp (iCmp fun i j => decide (i < j)) (mVar 15) (mC (.int 1)))) (mtOr (mtB (mOp iNe (mComp [17] (miR rg2 (maCons (mC (.int 2)) (maCons (mC (.int 10)) maNil))) (bName 17) (mtAnd (mtB (mOp iEq (mOp iMod (mVar 14) (mVar 17)) (mC (.int 0)))) (mtB (mOp iEq (mOp iMod (mVar 15) (mVar 17)) (mC (.int 0))))) (mVar 17)) (mLst maNil))) (mtB (mOp iNe (mCall 2 r_part (maCons (mOp iSub (mC (.int 0)) (mOp iIx (mIxV 3 (mVar 5)) (mC (.int 0)))) (maCons (mOp iSub (mC (.int 0)) (mOp iIx (mIxV 3 (mVar 5)) (mC (.int 1)))) maNil))) (mTup (maCons (mVar 14) (maCons (mVar 15) maNil)))))))) (mRet (mC (.bool false))) mNext)))
  (mSeq (mPar 10 11 (maCons (mIxV 4 (mC (.int 0))) (maCons (mIxV 4 (mC (.int 1))) maNil)))
  (mSeq (mIfS (mtOr (mtB (mOp iNe (mOp iMulA (mOp iMulA (mOp iIx (mCall 2 r_plus (maCons (mVar 10) (maCons (mVar 11) maNil))) (mC (.int 0))) (mIxV 10 (mC (.int 1)))) (mIxV 11 (mC (.int 1)))) (mOp iMulA (mOp iAddA (mOp iMulA (mIxV 10 (mC (.int 0))) (mIxV 11 (mC (.int 1)))) (mOp iMulA (mIxV 11 (mC (.int 0))) (mIxV 10 (mC (.int 1))))) (mOp iIx (mCall 2 r_plus (maCons (mVar 10) (maCons (mVar 11) maNil))) (mC (.int 1)))))) (mtOr (mtB (mOp iNe (mCall 2 r_minus (maCons (mCall 2 r_plus (maCons (mVar 10) (maCons (mVar 11) maNil))) (maCons (mVar 11) maNil))) (mVar 10))) (mtB (mOp iNe (mOp iMulA (mOp iMulA (mOp iIx (mCall 2 r_times (maCons (mVar 10) (maCons (mVar 11) maNil))) (mC (.int 0))) (mIxV 10 (mC (.int 1)))) (mIxV 11 (mC (.int 1)))) (mOp iMulA (mOp iMulA (mIxV 10 (mC (.int 0))) (mIxV 11 (mC (.int 0)))) (mOp iIx (mCall 2 r_times (maCons (mVar 10) (maCons (mVar 11) maNil))) (mC (.int 1)))))))) (mRet (mC (.bool false))) mNext)
  (mSeq (mAsg (bName 6) (mOp (iCmp fun i j => decide (i < j)) (mOp iMulA (mIxV 10 (mC (.int 0))) (mIxV 11 (mC (.int 1)))) (mOp iMulA (mIxV 11 (mC (.int 0))) (mIxV 10 (mC (.int 1))))))
  (mSeq (mIfS (mtOr (mtB (mOp iNe (mCall 2 r_is_less (maCons (mVar 10) (maCons (mVar 11) maNil))) (mVar 6))) (mtOr (mtB (mOp iNe (mCall 2 r_lesser (maCons (mVar 10) (maCons (mVar 11) maNil))) (mIf (mtTru (mVar 6)) (mVar 10) (mVar 11)))) (mtOr (mtB (mOp iNe (mCall 2 r_greater (maCons (mVar 10) (maCons (mVar 11) maNil))) (mIf (mtTru (mVar 6)) (mVar 11) (mVar 10)))) (mtAnd (mtB (mOp iNe (mIxV 11 (mC (.int 0))) (mC (.int 0)))) (mtOr (mtB (mOp iNe (mCall 2 r_times (maCons (mCall 2 r_over (maCons (mVar 10) (maCons (mVar 11) maNil))) (maCons (mVar 11) maNil))) (mVar 10))) (mtB (mOp (iCmp fun i j => decide (i < j)) (mOp iIx (mCall 2 r_over (maCons (mVar 10) (maCons (mVar 11) maNil))) (mC (.int 1))) (mC (.int 1))))))))) (mRet (mC (.bool false))) mNext)
  (mSeq (mAsg (bTup 2 (bCons (bName 12) (bCons (bName 13) bNil))) (mTup (maCons (mTup (maCons (mC (.int 0)) (maCons (mC (.int 1)) maNil))) (maCons (mTup (maCons (mC (.int 1)) (maCons (mC (.int 1)) maNil))) maNil))))
  (mSeq (mFor (miSeq (mVar 4)) (bName 7) (mPar 12 13 (maCons (mCall 2 r_plus (maCons (mVar 12) (maCons (mVar 7) maNil))) (maCons (mCall 2 r_times (maCons (mVar 13) (maCons (mVar 7) maNil))) maNil))))
  (mSeq (mIfS (mtOr (mtB (mOp iNe (mCall 1 r_total (maCons (mVar 4) maNil)) (mVar 12))) (mtOr (mtB (mOp iNe (mCall 1 r_product (maCons (mVar 4) maNil)) (mVar 13))) (mtOr (mtB (mOp iNe (mCall 1 r_total (maCons (mLst maNil) maNil)) (mTup (maCons (mC (.int 0)) (maCons (mC (.int 1)) maNil))))) (mtB (mOp iNe (mCall 1 r_product (maCons (mLst maNil) maNil)) (mTup (maCons (mC (.int 1)) (maCons (mC (.int 1)) maNil)))))))) (mRet (mC (.bool false))) mNext)
  (mSeq (mAsg (bName 8) (mCallM 1 r_law_roll 1 (maCons (mC (.int 6)) maNil)))
  (mSeq (mIfS (mtOr (mtB (mOp iNe (mCall 2 r_power (maCons (mVar 10) (maCons (mVar 8) maNil))) (mCall 1 r_product (maCons (mOp iMulA (mLst (maCons (mVar 10) maNil)) (mVar 8)) maNil)))) (mtB (mOp iNe (mCall 2 r_raised (maCons (mC (.int 3)) (maCons (mVar 8) maNil))) (mOp iIx (mLst (maCons (mC (.int 1)) (maCons (mC (.int 3)) (maCons (mC (.int 9)) (maCons (mC (.int 27)) (maCons (mC (.int 81)) (maCons (mC (.int 243)) maNil))))))) (mVar 8))))) (mRet (mC (.bool false))) mNext)
  (mSeq (mIfS (mtOr (mtB (mOp iNe (mComp [7] (miSeq (mVar 4)) (bName 7) (mtOr (mtTru (mCall 2 r_is_less (maCons (mVar 7) (maCons (mCall 1 r_least_of (maCons (mVar 4) maNil)) maNil)))) (mtTru (mCall 2 r_is_less (maCons (mCall 1 r_greatest_of (maCons (mVar 4) maNil)) (maCons (mVar 7) maNil))))) (mVar 7)) (mLst maNil))) (mtOr (mtB (mOp iNi (mCall 1 r_least_of (maCons (mVar 4) maNil)) (mVar 4))) (mtB (mOp iNi (mCall 1 r_greatest_of (maCons (mVar 4) maNil)) (mVar 4))))) (mRet (mC (.bool false))) mNext)
  (mSeq (mAsg (bName 9) (mChain (iCmp fun i j => decide (i ≤ j)) (iCmp fun i j => decide (i ≤ j)) (mC (.int 0)) (mIxV 10 (mC (.int 0))) (mIxV 10 (mC (.int 1)))))
  (mSeq (mIfS (mtOr (mtB (mOp iNe (mTold nmT (mCall 1 r_check_chance (maCons (mIxV 3 (mC (.int 0))) maNil))) (mIf (mtTru (mVar 9)) (mVar 10) (mC (.str (PySem.Str.ofString "part")))))) (mtAnd (mtTru (mVar 9)) (mtB (mOp iNe (mCall 2 r_plus (maCons (mCall 1 r_other_way (maCons (mVar 10) maNil)) (maCons (mVar 10) maNil))) (mTup (maCons (mC (.int 1)) (maCons (mC (.int 1)) maNil))))))) (mRet (mC (.bool false))) mNext)
  (mIfS (mtOr (mtB (mOp iNe (mCall 1 r_told (maCons (mVar 10) maNil)) (mIf (mtB (mOp iEq (mIxV 10 (mC (.int 1))) (mC (.int 1)))) (mCa cStr (maCons (mIxV 10 (mC (.int 0))) maNil)) (mOp iAddA (mOp iAddA (mCa cStr (maCons (mIxV 10 (mC (.int 0))) maNil)) (mC (.str (PySem.Str.ofString "/")))) (mCa cStr (maCons (mIxV 10 (mC (.int 1))) maNil)))))) (mtB (mOp iNe (mCall 2 r_shared (maCons (mC (.int 12)) (maCons (mC (.int 18)) maNil))) (mC (.int 6))))) (mRet (mC (.bool false))) mNext))))))))))))))))
theorem sc_law : FnScope ["script", "dice", "wrong", "rows", "parts", "k", "less", "one", "count", "good", "a", "b", "whole_now", "whole_times", "top", "low", "pair", "by"] ["script"] (defScope s_law) := ⟨rfl, rfl, rfl, by decide +kernel, rfl, by decide +kernel, by decide +kernel⟩
theorem bd_law {f c Pt : Addr} {A : Around} {outer : List PySem.Env} {s : Shared} {H : Hp} {E : XK} (F_law_roll : FnM P w K mg base C 1 "_law_roll" 1 r_law_roll) (F_part : FnI P w K mg base C 2 "part" 2 r_part) (F_times : FnI P w K mg base C 3 "times" 2 r_times) (F_minus : FnI P w K mg base C 3 "minus" 2 r_minus) (F_plus : FnI P w K mg base C 3 "plus" 2 r_plus) (F_over : FnI P w K mg base C 3 "over" 2 r_over) (F_greater : FnI P w K mg base C 5 "greater" 2 r_greater) (F_lesser : FnI P w K mg base C 5 "lesser" 2 r_lesser) (F_is_less : FnI P w K mg base C 4 "is_less" 2 r_is_less) (F_product : FnI P w K mg base C 4 "product" 1 r_product) (F_total : FnI P w K mg base C 4 "total" 1 r_total) (F_raised : FnI P w K mg base C 1 "raised" 2 r_raised) (F_power : FnI P w K mg base C 3 "power" 2 r_power) (F_greatest_of : FnI P w K mg base C 6 "greatest_of" 1 r_greatest_of) (F_least_of : FnI P w K mg base C 6 "least_of" 1 r_least_of) (F_other_way : FnI P w K mg base C 4 "other_way" 1 r_other_way) (F_check_chance : FnI P w K mg base C 3 "check_chance" 1 r_check_chance) (F_shared : FnI P w K mg base C 1 "shared" 2 r_shared) (F_told : FnI P w K mg base C 3 "told" 1 r_told) (n_range : mg "range" = none) (n_len : mg "len" = none) (n_str : mg "str" = none) (T : ToldI P w K mg base C) (TB : LamX.TabB base mg c Pt) (hT : C.T = [(Pt, ("law.<locals>.<lambda>" : Str))])
    (hr : Room 6 (A.deeper (envOfC "law" (defScope s_law) s.heap.objs.size f (.ref c)))) : ∃ ts, BD (cxOf (L2.CX P w) P w K mg base ["script", "dice", "wrong", "rows", "parts", "k", "less", "one", "count", "good", "a", "b", "whole_now", "whole_times", "top", "low", "pair", "by"] "law" (defScope s_law) f (.ref c) A outer s H E) C E (lawBody s_law) ts m_law := by
  obtain ⟨lT, g, fdT, hlT, g_lt, F_lt, hhT⟩ := T.ex
  have hmT : (Pt, ("law.<locals>.<lambda>" : Str)) ∈ C.T := by rw [hT]; exact List.mem_singleton.mpr rfl
  have huT : ∀ p ∈ C.T, p.1 = Pt → p.2 = ("law.<locals>.<lambda>" : Str) := fun p hp _ => by rw [hT] at hp; rw [List.mem_singleton.mp hp]
  exact ⟨_,
   (b_cons (s_asg (d_lc (own := [("k", 5)]) (te := (tTup (tCons (tOp rSubI (tCallS (spM K C 1 r_law_roll) (fun _ => EX0) (tCons (tVar 1) (tCons (tC (.int 19)) tNil))) (tC (.int 9))) (tCons (tOp (rAddA K) (tC (.int 1)) (tCallS (spM K C 1 r_law_roll) (fun _ => EX0) (tCons (tVar 1) (tCons (tC (.int 6)) tNil)))) tNil)))) (gg := (gName 5)) (bb := (bName 5)) rfl sc_law.nd (blkOk_by (by kernel_rfl)) (i_rg1 rfl n_range (d_cons (d_addA d_int (d_callM 1 F_law_roll (hr.mono (by decide)) (takes_of rfl rfl rfl rfl) rfl (d_cons d_int d_nil))) d_nil)) (fun _ _ _ _ _ => (g_name 5 sc_law.nd)) (fun _ _ _ _ _ => (d_tup (d_cons (d_sub (d_callM 1 F_law_roll (hr.mono (by decide)) takes0 rfl (d_cons d_int d_nil)) d_int) (d_cons (d_addA d_int (d_callM 1 F_law_roll (hr.mono (by decide)) takes0 rfl (d_cons d_int d_nil))) d_nil))))) (g_name 3 sc_law.nd))
    (b_cons (s_asg (d_lc (own := [("top", 14), ("low", 15)]) (te := (tCallS (spP K C 2 r_part) (fun _ => EX0) (tCons (tVar 14) (tCons (tVar 15) tNil)))) (gg := (gTup K 2 (gCons (gName 14) (gCons (gName 15) gNil)))) (bb := (bTup 2 (bCons (bName 14) (bCons (bName 15) bNil)))) rfl sc_law.nd (blkOk_by (by kernel_rfl)) (i_seq (d_var 3)) (fun _ _ _ _ _ => (g_tup rfl (g_cons (g_name 14 sc_law.nd) (g_cons (g_name 15 sc_law.nd) g_nil)))) (fun _ _ _ _ _ => (d_call F_part (hr.mono (by decide)) takes0 rfl (d_cons (d_var 14) (d_cons (d_var 15) d_nil))))) (g_name 4 sc_law.nd))
    (b_cons (s_for (passes_of rfl) rfl (i_rg1 rfl n_range (d_cons (d_cb call_len_seq cas_len rfl n_len PySem.boot_len (d_cons (d_var 3) d_nil)) d_nil)) (g_name 5 sc_law.nd) (b_cons (s_asg (d_ixV 4 (d_var 5)) (g_tup rfl (g_cons (g_name 14 sc_law.nd) (g_cons (g_name 15 sc_law.nd) g_nil))))
    (b_one (s_if (t_w (w_or (t_ne hr.units (d_mulA (d_var 14) (d_ix (d_ixV 3 (d_var 5)) d_int)) (d_mulA (d_ix (d_ixV 3 (d_var 5)) d_int) (d_var 15))) (w_or (t_lt (d_var 15) d_int) (w_or (t_ne hr.units (d_lcif (own := [("by", 17)]) (te := (tVar 17)) (tt := (tAnd (tTest (tOp (rEqD K) (tOp rModI (tVar 14) (tVar 17)) (tC (.int 0)))) (tTest (tOp (rEqD K) (tOp rModI (tVar 15) (tVar 17)) (tC (.int 0)))))) (gg := (gName 17)) (bb := (bName 17)) rfl sc_law.nd (blkOk_by (by kernel_rfl)) (i_rg2 rfl n_range (d_cons d_int (d_cons d_int d_nil))) (fun _ _ _ _ _ => (g_name 17 sc_law.nd)) (fun _ _ _ _ _ => (t_w (w_and (t_eq hr.units (d_mod (d_var 14) (d_var 17)) d_int) (w_and1 (t_eq hr.units (d_mod (d_var 15) (d_var 17)) d_int))))) (fun _ _ _ _ _ => (d_var 17))) (d_lst d_nil)) (w_or1 (t_ne hr.units (d_call F_part (hr.mono (by decide)) (takes_of rfl rfl rfl rfl) rfl (d_cons (d_sub d_int (d_ix (d_ixV 3 (d_var 5)) d_int)) (d_cons (d_sub d_int (d_ix (d_ixV 3 (d_var 5)) d_int)) d_nil))) (d_tup (d_cons (d_var 14) (d_cons (d_var 15) d_nil))))))))) (b_one (s_ret d_bl)) b_nil))))
    (b_cons (s_par 10 11 rfl sc_law.nd (d_cons (d_ixV 4 d_int) (d_cons (d_ixV 4 d_int) d_nil)))
    (b_cons (s_if (t_w (w_or (t_ne hr.units (d_mulA (d_mulA (d_ix (d_call F_plus (hr.mono (by decide)) (takes_of rfl rfl rfl rfl) rfl (d_cons (d_var 10) (d_cons (d_var 11) d_nil))) d_int) (d_ixV 10 d_int)) (d_ixV 11 d_int)) (d_mulA (d_addA (d_mulA (d_ixV 10 d_int) (d_ixV 11 d_int)) (d_mulA (d_ixV 11 d_int) (d_ixV 10 d_int))) (d_ix (d_call F_plus (hr.mono (by decide)) (takes_of rfl rfl rfl rfl) rfl (d_cons (d_var 10) (d_cons (d_var 11) d_nil))) d_int))) (w_or (t_ne hr.units (d_call F_minus (hr.mono (by decide)) (takes_of rfl rfl rfl rfl) rfl (d_cons (d_call F_plus (hr.mono (by decide)) (takes_of rfl rfl rfl rfl) rfl (d_cons (d_var 10) (d_cons (d_var 11) d_nil))) (d_cons (d_var 11) d_nil))) (d_var 10)) (w_or1 (t_ne hr.units (d_mulA (d_mulA (d_ix (d_call F_times (hr.mono (by decide)) (takes_of rfl rfl rfl rfl) rfl (d_cons (d_var 10) (d_cons (d_var 11) d_nil))) d_int) (d_ixV 10 d_int)) (d_ixV 11 d_int)) (d_mulA (d_mulA (d_ixV 10 d_int) (d_ixV 11 d_int)) (d_ix (d_call F_times (hr.mono (by decide)) (takes_of rfl rfl rfl rfl) rfl (d_cons (d_var 10) (d_cons (d_var 11) d_nil))) d_int))))))) (b_one (s_ret d_bl)) b_nil)
    (b_cons (s_asg (d_lt (d_mulA (d_ixV 10 d_int) (d_ixV 11 d_int)) (d_mulA (d_ixV 11 d_int) (d_ixV 10 d_int))) (g_name 6 sc_law.nd))
    (b_cons (s_if (t_w (w_or (t_ne hr.units (d_call F_is_less (hr.mono (by decide)) (takes_of rfl rfl rfl rfl) rfl (d_cons (d_var 10) (d_cons (d_var 11) d_nil))) (d_var 6)) (w_or (t_ne hr.units (d_call F_lesser (hr.mono (by decide)) (takes_of rfl rfl rfl rfl) rfl (d_cons (d_var 10) (d_cons (d_var 11) d_nil))) (d_ifExp (t_tru (d_var 6)) (d_var 10) (d_var 11))) (w_or (t_ne hr.units (d_call F_greater (hr.mono (by decide)) (takes_of rfl rfl rfl rfl) rfl (d_cons (d_var 10) (d_cons (d_var 11) d_nil))) (d_ifExp (t_tru (d_var 6)) (d_var 11) (d_var 10))) (w_or1 (t_w (w_and (t_ne hr.units (d_ixV 11 d_int) d_int) (w_and1 (t_w (w_or (t_ne hr.units (d_call F_times (hr.mono (by decide)) (takes_of rfl rfl rfl rfl) rfl (d_cons (d_call F_over (hr.mono (by decide)) (takes_of rfl rfl rfl rfl) rfl (d_cons (d_var 10) (d_cons (d_var 11) d_nil))) (d_cons (d_var 11) d_nil))) (d_var 10)) (w_or1 (t_lt (d_ix (d_call F_over (hr.mono (by decide)) (takes_of rfl rfl rfl rfl) rfl (d_cons (d_var 10) (d_cons (d_var 11) d_nil))) d_int) d_int)))))))))))) (b_one (s_ret d_bl)) b_nil)
    (b_cons (s_asg (d_tup (d_cons (d_tup (d_cons d_int (d_cons d_int d_nil))) (d_cons (d_tup (d_cons d_int (d_cons d_int d_nil))) d_nil))) (g_tup rfl (g_cons (g_name 12 sc_law.nd) (g_cons (g_name 13 sc_law.nd) g_nil))))
    (b_cons (s_for (passes_of rfl) rfl (i_seq (d_var 4)) (g_name 7 sc_law.nd) (b_one (s_par 12 13 rfl sc_law.nd (d_cons (d_call F_plus (hr.mono (by decide)) (takes_of rfl rfl rfl rfl) rfl (d_cons (d_var 12) (d_cons (d_var 7) d_nil))) (d_cons (d_call F_times (hr.mono (by decide)) (takes_of rfl rfl rfl rfl) rfl (d_cons (d_var 13) (d_cons (d_var 7) d_nil))) d_nil)))))
    (b_cons (s_if (t_w (w_or (t_ne hr.units (d_call F_total (hr.mono (by decide)) (takes_of rfl rfl rfl rfl) rfl (d_cons (d_var 4) d_nil)) (d_var 12)) (w_or (t_ne hr.units (d_call F_product (hr.mono (by decide)) (takes_of rfl rfl rfl rfl) rfl (d_cons (d_var 4) d_nil)) (d_var 13)) (w_or (t_ne hr.units (d_call F_total (hr.mono (by decide)) (takes_of rfl rfl rfl rfl) rfl (d_cons (d_lst d_nil) d_nil)) (d_tup (d_cons d_int (d_cons d_int d_nil)))) (w_or1 (t_ne hr.units (d_call F_product (hr.mono (by decide)) (takes_of rfl rfl rfl rfl) rfl (d_cons (d_lst d_nil) d_nil)) (d_tup (d_cons d_int (d_cons d_int d_nil))))))))) (b_one (s_ret d_bl)) b_nil)
    (b_cons (s_asg (d_callM 1 F_law_roll (hr.mono (by decide)) (takes_of rfl rfl rfl rfl) rfl (d_cons d_int d_nil)) (g_name 8 sc_law.nd))
    (b_cons (s_if (t_w (w_or (t_ne hr.units (d_call F_power (hr.mono (by decide)) (takes_of rfl rfl rfl rfl) rfl (d_cons (d_var 10) (d_cons (d_var 8) d_nil))) (d_call F_product (hr.mono (by decide)) (takes_of rfl rfl rfl rfl) rfl (d_cons (d_mulA (d_lst (d_cons (d_var 10) d_nil)) (d_var 8)) d_nil))) (w_or1 (t_ne hr.units (d_call F_raised (hr.mono (by decide)) (takes_of rfl rfl rfl rfl) rfl (d_cons d_int (d_cons (d_var 8) d_nil))) (d_ix (d_lst (d_cons d_int (d_cons d_int (d_cons d_int (d_cons d_int (d_cons d_int (d_cons d_int d_nil))))))) (d_var 8)))))) (b_one (s_ret d_bl)) b_nil)
    (b_cons (s_if (t_w (w_or (t_ne hr.units (d_lcif (own := [("one", 7)]) (te := (tVar 7)) (tt := (tOr (tTruK K (tCallS (spP K C 2 r_is_less) (fun _ => EX0) (tCons (tVar 7) (tCons (tCallS (spP K C 1 r_least_of) (fun _ => EX0) (tCons (tVar 4) tNil)) tNil)))) (tTruK K (tCallS (spP K C 2 r_is_less) (fun _ => EX0) (tCons (tCallS (spP K C 1 r_greatest_of) (fun _ => EX0) (tCons (tVar 4) tNil)) (tCons (tVar 7) tNil)))))) (gg := (gName 7)) (bb := (bName 7)) rfl sc_law.nd (blkOk_by (by kernel_rfl)) (i_seq (d_var 4)) (fun _ _ _ _ _ => (g_name 7 sc_law.nd)) (fun _ _ _ _ _ => (t_w (w_or (t_tru (d_call F_is_less (hr.mono (by decide)) takes0 rfl (d_cons (d_var 7) (d_cons (d_call F_least_of (hr.mono (by decide)) takes0 rfl (d_cons (d_var 4) d_nil)) d_nil)))) (w_or1 (t_tru (d_call F_is_less (hr.mono (by decide)) takes0 rfl (d_cons (d_call F_greatest_of (hr.mono (by decide)) takes0 rfl (d_cons (d_var 4) d_nil)) (d_cons (d_var 7) d_nil)))))))) (fun _ _ _ _ _ => (d_var 7))) (d_lst d_nil)) (w_or (t_ni (room65 hr) (d_call F_least_of (hr.mono (by decide)) (takes_of rfl rfl rfl rfl) rfl (d_cons (d_var 4) d_nil)) (d_var 4)) (w_or1 (t_ni (room65 hr) (d_call F_greatest_of (hr.mono (by decide)) (takes_of rfl rfl rfl rfl) rfl (d_cons (d_var 4) d_nil)) (d_var 4)))))) (b_one (s_ret d_bl)) b_nil)
    (b_cons (s_asg (d_chain op_le ops_cmp op_le ops_cmp d_int (d_ixV 10 d_int) (d_ixV 10 d_int)) (g_name 9 sc_law.nd))
    (b_cons (s_if (t_w (w_or (t_ne hr.units (d_told (k := 3) (t := fun E => (tCallS (spP K C 1 r_check_chance) (fun _ => E) (tCons (tOp (rIx K) (tVar 3) (tC (.int 0))) tNil))) (Ng := ["what"]) hlT rfl g_lt F_lt (fun _ _ _ _ _ _ us hl => match us, hl with | [_], _ => rfl) sc_law_told rfl (Or.inl rfl) (fun _ => rfl) hhT TB rfl hmT huT (hr.mono (by decide)) (LamX.lamS_by (by kernel_rfl)) rfl (fun _ _ _ _ _ => rfl) (fun A outer s H E f c' hr => (d_call F_check_chance (hr.mono (by decide)) (takes_of rfl rfl rfl rfl) rfl (d_cons (d_ixV 3 d_int) d_nil))) ⟨callerA, fun s f c' => (Room.deeper ⟨rfl, by decide, by decide⟩ _)⟩) (d_ifExp (t_tru (d_var 9)) (d_var 10) d_str)) (w_or1 (t_w (w_and (t_tru (d_var 9)) (w_and1 (t_ne hr.units (d_call F_plus (hr.mono (by decide)) (takes_of rfl rfl rfl rfl) rfl (d_cons (d_call F_other_way (hr.mono (by decide)) (takes_of rfl rfl rfl rfl) rfl (d_cons (d_var 10) d_nil)) (d_cons (d_var 10) d_nil))) (d_tup (d_cons d_int (d_cons d_int d_nil)))))))))) (b_one (s_ret d_bl)) b_nil)
    (b_one (s_if (t_w (w_or (t_ne hr.units (d_call F_told (hr.mono (by decide)) (takes_of rfl rfl rfl rfl) rfl (d_cons (d_var 10) d_nil)) (d_ifExp (t_eq hr.units (d_ixV 10 d_int) d_int) (d_ct call_str_int cas_str rfl n_str (by decide +kernel) (d_cons (d_ixV 10 d_int) d_nil)) (d_addA (d_addA (d_ct call_str_int cas_str rfl n_str (by decide +kernel) (d_cons (d_ixV 10 d_int) d_nil)) d_str) (d_ct call_str_int cas_str rfl n_str (by decide +kernel) (d_cons (d_ixV 10 d_int) d_nil))))) (w_or1 (t_ne hr.units (d_call F_shared (hr.mono (by decide)) (takes_of rfl rfl rfl rfl) rfl (d_cons d_int (d_cons d_int d_nil))) d_int)))) (b_one (s_ret d_bl)) b_nil)))))))))))))))))⟩
end
end K1

namespace K1
open PySem PySem.Spec PyProof.Rows L2 LW
section
variable {P : Program} {w : World} {K : PySem.W.Frag} {mg : Str → Option Value} {base : Heap} {C : Cl}
abbrev s_law_rounds : Stmt := top 36
def m_law_rounds : MS := (mSeq (mIfS (mtB (mOp iEq (mVar 2) (mLst maNil))) (mAsg (bName 2) (mLst (maCons (mC (.int 0)) maNil))) mNext)
  (mRet (mComp [3] (miSeq (mVar 2)) (bName 3) mtYes (mCall 1 r_law_dice (maCons (mVar 3) maNil)))))
theorem sc_law_rounds : FnScope ["script", "most", "cells", "cell"] ["script", "most"] (defScope s_law_rounds) := ⟨rfl, rfl, rfl, by decide +kernel, rfl, by decide +kernel, by decide +kernel⟩
theorem ok_law_rounds {f : Addr} {fd : FuncData} (F : FunD K "_law_rounds" "_law_rounds" (defArgs s_law_rounds) (defBody s_law_rounds) (defScope s_law_rounds) [] [] f fd) (F_law_dice : FnI P w K mg base C 1 "_law_dice" 1 r_law_dice)
    (h0 : ∃ e, m_law_rounds [none, some (.sh (.int 1)), some (.sh (.list [])), none] = .rt e (.list [.list (intsD (diceOf 0))])) (h1 : ∀ z, ∃ e, m_law_rounds [none, some (.sh (.int 1)), some (.sh (.list [.int z])), none] = .rt e (.list [.list (intsD (diceOf z))])) :
    FnOk P w K mg base (L2.CX P w) 2 f fd ["script", "most"] (spRounds K C diceOf) :=
  rounds_ok (k := 1) (m := m_law_rounds) (N := ["script", "most", "cells", "cell"]) F sc_law_rounds rfl (fun cdv A outer s H E hr => ⟨ps_set (i := 2) sc_law_rounds.nd rfl (by first | exact Or.inl rfl | exact Or.inr rfl) (pe_slice sl_list (pe_var rfl (by first | exact Or.inl rfl | exact Or.inr (Or.inl rfl) | exact Or.inr (Or.inr rfl))) po_none (po_some (pe_var rfl (by first | exact Or.inl rfl | exact Or.inr (Or.inl rfl) | exact Or.inr (Or.inr rfl))))), _,
   (b_cons (s_if (t_eq hr.units (d_var 2) (d_lst d_nil)) (b_one (s_asg (d_lst (d_cons d_int d_nil)) (g_name 2 sc_law_rounds.nd))) b_nil)
    (b_one (s_ret (d_lc (own := [("cell", 3)]) (te := (tCallS (spP K C 1 r_law_dice) (fun _ => EX0) (tCons (tVar 3) tNil))) (gg := (gName 3)) (bb := (bName 3)) rfl sc_law_rounds.nd (blkOk_by (by kernel_rfl)) (i_seq (d_var 2)) (fun _ _ _ _ _ => (g_name 3 sc_law_rounds.nd)) (fun _ _ _ _ _ => (d_call F_law_dice (hr.mono (by decide)) takes0 rfl (d_cons (d_var 3) d_nil)))))))⟩) h0 h1
theorem lams_law (s0 : Shared) (F_part : FnI P w K mg base C 2 "part" 2 r_part) (F_over : FnI P w K mg base C 3 "over" 2 r_over) (F_power : FnI P w K mg base C 3 "power" 2 r_power) (F_raised : FnI P w K mg base C 1 "raised" 2 r_raised) (F_check_chance : FnI P w K mg base C 3 "check_chance" 1 r_check_chance) (F_least_of : FnI P w K mg base C 6 "least_of" 1 r_least_of) (F_greatest_of : FnI P w K mg base C 6 "greatest_of" 1 r_greatest_of) : LamAll P w K mg base C 6 "law.<locals>.<lambda>" (lmsIn s_law) :=
  ⟨lam_of s0 1 (t := fun E => (tCallS (spP K C 2 r_part) (fun _ => E) (tCons (tC (.int 1)) (tCons (tC (.int 0)) tNil)))) (m := (mCall 2 r_part (maCons (mC (.int 1)) (maCons (mC (.int 0)) maNil)))) ⟨rfl, rfl, rfl, by decide +kernel, rfl, by decide +kernel, by decide +kernel⟩ (fun _ _ _ => rfl) (fun A outer s H E f c' hr => (d_call F_part (hr.mono (by decide)) (takes_of rfl rfl rfl rfl) rfl (d_cons d_int (d_cons d_int d_nil)))) (Room.deeper ⟨rfl, by decide, by decide⟩ _) (by kernel_rfl) rfl,
   lam_of s0 1 (t := fun E => (tCallS (spP K C 2 r_over) (fun _ => E) (tCons (tTup (tCons (tC (.int 1)) (tCons (tC (.int 1)) tNil))) (tCons (tTup (tCons (tC (.int 0)) (tCons (tC (.int 1)) tNil))) tNil)))) (m := (mCall 2 r_over (maCons (mTup (maCons (mC (.int 1)) (maCons (mC (.int 1)) maNil))) (maCons (mTup (maCons (mC (.int 0)) (maCons (mC (.int 1)) maNil))) maNil)))) ⟨rfl, rfl, rfl, by decide +kernel, rfl, by decide +kernel, by decide +kernel⟩ (fun _ _ _ => rfl) (fun A outer s H E f c' hr => (d_call F_over (hr.mono (by decide)) (takes_of rfl rfl rfl rfl) rfl (d_cons (d_tup (d_cons d_int (d_cons d_int d_nil))) (d_cons (d_tup (d_cons d_int (d_cons d_int d_nil))) d_nil)))) (Room.deeper ⟨rfl, by decide, by decide⟩ _) (by kernel_rfl) rfl,
   lam_of s0 1 (t := fun E => (tCallS (spP K C 2 r_power) (fun _ => E) (tCons (tTup (tCons (tC (.int 1)) (tCons (tC (.int 2)) tNil))) (tCons (tOp rSubI (tC (.int 0)) (tC (.int 1))) tNil)))) (m := (mCall 2 r_power (maCons (mTup (maCons (mC (.int 1)) (maCons (mC (.int 2)) maNil))) (maCons (mOp iSub (mC (.int 0)) (mC (.int 1))) maNil)))) ⟨rfl, rfl, rfl, by decide +kernel, rfl, by decide +kernel, by decide +kernel⟩ (fun _ _ _ => rfl) (fun A outer s H E f c' hr => (d_call F_power (hr.mono (by decide)) (takes_of rfl rfl rfl rfl) rfl (d_cons (d_tup (d_cons d_int (d_cons d_int d_nil))) (d_cons (d_sub d_int d_int) d_nil)))) (Room.deeper ⟨rfl, by decide, by decide⟩ _) (by kernel_rfl) rfl,
   lam_of s0 1 (t := fun E => (tCallS (spP K C 2 r_raised) (fun _ => E) (tCons (tC (.int 2)) (tCons (tOp rSubI (tC (.int 0)) (tC (.int 1))) tNil)))) (m := (mCall 2 r_raised (maCons (mC (.int 2)) (maCons (mOp iSub (mC (.int 0)) (mC (.int 1))) maNil)))) ⟨rfl, rfl, rfl, by decide +kernel, rfl, by decide +kernel, by decide +kernel⟩ (fun _ _ _ => rfl) (fun A outer s H E f c' hr => (d_call F_raised (hr.mono (by decide)) (takes_of rfl rfl rfl rfl) rfl (d_cons d_int (d_cons (d_sub d_int d_int) d_nil)))) (Room.deeper ⟨rfl, by decide, by decide⟩ _) (by kernel_rfl) rfl,
   lam_of s0 1 (t := fun E => (tCallS (spP K C 1 r_check_chance) (fun _ => E) (tCons (tTup (tCons (tOp rSubI (tC (.int 0)) (tC (.int 1))) (tCons (tC (.int 2)) tNil))) tNil))) (m := (mCall 1 r_check_chance (maCons (mTup (maCons (mOp iSub (mC (.int 0)) (mC (.int 1))) (maCons (mC (.int 2)) maNil))) maNil))) ⟨rfl, rfl, rfl, by decide +kernel, rfl, by decide +kernel, by decide +kernel⟩ (fun _ _ _ => rfl) (fun A outer s H E f c' hr => (d_call F_check_chance (hr.mono (by decide)) (takes_of rfl rfl rfl rfl) rfl (d_cons (d_tup (d_cons (d_sub d_int d_int) (d_cons d_int d_nil))) d_nil))) (Room.deeper ⟨rfl, by decide, by decide⟩ _) (by kernel_rfl) rfl,
   lam_of s0 1 (t := fun E => (tCallS (spP K C 1 r_check_chance) (fun _ => E) (tCons (tTup (tCons (tC (.int 3)) (tCons (tC (.int 2)) tNil))) tNil))) (m := (mCall 1 r_check_chance (maCons (mTup (maCons (mC (.int 3)) (maCons (mC (.int 2)) maNil))) maNil))) ⟨rfl, rfl, rfl, by decide +kernel, rfl, by decide +kernel, by decide +kernel⟩ (fun _ _ _ => rfl) (fun A outer s H E f c' hr => (d_call F_check_chance (hr.mono (by decide)) (takes_of rfl rfl rfl rfl) rfl (d_cons (d_tup (d_cons d_int (d_cons d_int d_nil))) d_nil))) (Room.deeper ⟨rfl, by decide, by decide⟩ _) (by kernel_rfl) rfl,
   lam_of s0 1 (t := fun E => (tCallS (spP K C 1 r_least_of) (fun _ => E) (tCons (tLst tNil) tNil))) (m := (mCall 1 r_least_of (maCons (mLst maNil) maNil))) ⟨rfl, rfl, rfl, by decide +kernel, rfl, by decide +kernel, by decide +kernel⟩ (fun _ _ _ => rfl) (fun A outer s H E f c' hr => (d_call F_least_of (hr.mono (by decide)) (takes_of rfl rfl rfl rfl) rfl (d_cons (d_lst d_nil) d_nil))) (Room.deeper ⟨rfl, by decide, by decide⟩ _) (by kernel_rfl) rfl,
   lam_of s0 1 (t := fun E => (tCallS (spP K C 1 r_greatest_of) (fun _ => E) (tCons (tLst tNil) tNil))) (m := (mCall 1 r_greatest_of (maCons (mLst maNil) maNil))) ⟨rfl, rfl, rfl, by decide +kernel, rfl, by decide +kernel, by decide +kernel⟩ (fun _ _ _ => rfl) (fun A outer s H E f c' hr => (d_call F_greatest_of (hr.mono (by decide)) (takes_of rfl rfl rfl rfl) rfl (d_cons (d_lst d_nil) d_nil))) (Room.deeper ⟨rfl, by decide, by decide⟩ _) (by kernel_rfl) rfl,
   trivial⟩
theorem ok_law {f c Pt fR : Addr} {fd fdR : FuncData} (F : FunD K "law" "law" (defArgs s_law) (defBody s_law) (defScope s_law) [] [] f fd) (hc : fd.code = .ref c) (F_law_roll : FnM P w K mg base C 1 "_law_roll" 1 r_law_roll) (F_part : FnI P w K mg base C 2 "part" 2 r_part) (F_times : FnI P w K mg base C 3 "times" 2 r_times) (F_minus : FnI P w K mg base C 3 "minus" 2 r_minus) (F_plus : FnI P w K mg base C 3 "plus" 2 r_plus) (F_over : FnI P w K mg base C 3 "over" 2 r_over) (F_greater : FnI P w K mg base C 5 "greater" 2 r_greater) (F_lesser : FnI P w K mg base C 5 "lesser" 2 r_lesser) (F_is_less : FnI P w K mg base C 4 "is_less" 2 r_is_less) (F_product : FnI P w K mg base C 4 "product" 1 r_product) (F_total : FnI P w K mg base C 4 "total" 1 r_total) (F_raised : FnI P w K mg base C 1 "raised" 2 r_raised) (F_power : FnI P w K mg base C 3 "power" 2 r_power) (F_greatest_of : FnI P w K mg base C 6 "greatest_of" 1 r_greatest_of) (F_least_of : FnI P w K mg base C 6 "least_of" 1 r_least_of) (F_other_way : FnI P w K mg base C 4 "other_way" 1 r_other_way) (F_check_chance : FnI P w K mg base C 3 "check_chance" 1 r_check_chance) (F_shared : FnI P w K mg base C 1 "shared" 2 r_shared) (F_told : FnI P w K mg base C 3 "told" 1 r_told) (n_range : mg "range" = none) (n_len : mg "len" = none) (n_str : mg "str" = none)
    (T : ToldI P w K mg base C) (TB : LamX.TabB base mg c Pt) (hT : C.T = [(Pt, ("law.<locals>.<lambda>" : Str))]) (FR : FnOk P w K mg base (L2.CX P w) 2 fR fdR ["script", "most"] (spRounds K C diceOf)) (gR : mg "_law_rounds" = some (.ref fR)) (kR : PySem.W.keepIn K (.ref fR) = true) (bR : Binds K fdR ["script", "most"] [])
    (hm : ∀ z, Builtin.Int.intBits z ≤ 1048576 → ∃ e, m_law (startL 18 (diceOf z)) = .nx e ∧ e.length = 18) : FnOk P w K mg base (L2.CX P w) 9 f fd ["script"] (spLaw K C) := by
  have hmT : (Pt, ("law.<locals>.<lambda>" : Str)) ∈ C.T := by rw [hT]; exact List.mem_singleton.mpr rfl
  have huT : ∀ p ∈ C.T, p.1 = Pt → p.2 = ("law.<locals>.<lambda>" : Str) := fun p hp _ => by rw [hT] at hp; rw [List.mem_singleton.mp hp]
  have T0 := T
  obtain ⟨lT, g, fdT, hlT, g_lt, F_lt, hhT⟩ := T.ex
  have okT : FnOk P w K mg base L2.CX0 8 g fdT ["what"] (spTold P w K mg base 6 lT) := told_ok (k := 6) F_lt sc_law_told rfl (by first | exact Or.inl rfl | exact Or.inr (Or.inl rfl) | exact Or.inr (Or.inr rfl)) (by decide) (by decide) (fun cdv A outer s H => hhT cdv A outer s H) (fun _ => rfl)
  have bT : Binds K fdT ["what"] [] := FunD.bindsN F_lt fun _ _ _ _ _ _ us hl => match us, hl with | [_], _ => rfl
  refine law_ok (k := 8) (N := ["script", "dice", "wrong", "rows", "parts", "k", "less", "one", "count", "good", "a", "b", "whole_now", "whole_times", "top", "low", "pair", "by"]) F sc_law (by decide) hc (fun A outer s H E hr => ?_) hm
  obtain ⟨tb, bd⟩ := bd_law (A := A) (outer := outer) (s := s) (H := H) (E := E) (f := f) (C := C) F_law_roll F_part F_times F_minus F_plus F_over F_greater F_lesser F_is_less F_product F_total F_raised F_power F_greatest_of F_least_of F_other_way F_check_chance F_shared F_told n_range n_len n_str T0 TB hT (hr.mono (by decide))
  refine ⟨tb, _, pss_cons (ps_for (passes_of rfl) rfl (pi_seq (pe_callS FR (hr.mono (by decide)) rfl gR kR bR (fun σ => passAt (takes_of rfl rfl rfl rfl) σ) (pa_cons (pe_var (i := 0) rfl (by first | exact Or.inl rfl | exact Or.inr (Or.inl rfl) | exact Or.inr (Or.inr rfl))) (pa_cons pe_int pa_nil)))) (g_name (C := C) 1 sc_law.nd).pe bd.pe)
    (pss_cons (ps_set (i := 2) sc_law.nd rfl (by first | exact Or.inl rfl | exact Or.inr rfl) (pe_lst (pa_wrong TB rfl hmT huT _ (lmsIn s_law) (by kernel_rfl) (fun l hl => noDef_ok (by kernel_rfl) l hl _))))
    (pss_one (ps_ret (pe_cmpR (op_eqD hr.units) (pe_lc (own := [("pair", 16)]) (tt := ttW K (spTold P w K mg base 6 lT) 16) (te := tVar 16) (g := gName 16) rfl sc_law.nd (pi_seq (pe_var (i := 2) rfl (by first | exact Or.inl rfl | exact Or.inr (Or.inl rfl) | exact Or.inr (Or.inr rfl)))) (blkOk_by (by kernel_rfl)) (fun _ _ _ _ _ => (g_name (C := C) 16 sc_law.nd).pe)
      (fun _ _ _ _ _ => pts_one (pt_cmpR (op_neD hr.units) (pe_callS okT (hr.mono (by decide)) rfl g_lt F_lt.kp bT (fun σ => fun _ _ _ _ _ _ z => z.elim) (pa_cons (pe_ix ix_seq (pe_var (i := 16) rfl (by first | exact Or.inl rfl | exact Or.inr (Or.inl rfl) | exact Or.inr (Or.inr rfl))) pe_int (fun _ _ => rfl)) pa_nil)) (pe_ix ix_seq (pe_var (i := 16) rfl (by first | exact Or.inl rfl | exact Or.inr (Or.inl rfl) | exact Or.inr (Or.inr rfl))) pe_int (fun _ _ => rfl)) (nomark _))) (fun _ _ _ _ _ => pe_var (i := 16) rfl (by first | exact Or.inl rfl | exact Or.inr (Or.inl rfl) | exact Or.inr (Or.inr rfl)))) (pe_lst pa_nil) (nomark _))))), bd.sd, tail_ok hlT (LamAll.mem (lams_law s F_part F_over F_power F_raised F_check_chance F_least_of F_greatest_of)) (by decide) (by decide) (Nat.le_of_ble_eq_true (by kernel_rfl)) (by decide)⟩
end
end K1


namespace K1
open PySem PySem.Spec PyProof.Rows L2 LW
def fn : List He.DefD := [defOf "shared" s_shared [], defOf "part" s_part [.int 1], defOf "plus" s_plus [], defOf "minus" s_minus [], defOf "times" s_times [], defOf "over" s_over [], defOf "is_less" s_is_less [], defOf "lesser" s_lesser [], defOf "greater" s_greater [], defOf "total" s_total [], defOf "product" s_product [], defOf "raised" s_raised [], defOf "power" s_power [], defOf "check_chance" s_check_chance [], defOf "other_way" s_other_way [], defOf "least_of" s_least_of [], defOf "greatest_of" s_greatest_of [], defOf "told" s_told [], defOf "_law_dice" s_law_dice [], defOf "_law_roll" s_law_roll [], defOf "_law_rounds" s_law_rounds [], defOf "_law_told" s_law_told [], defOf "law" s_law []]
def fa0 : List He.Fa := [.glo "shared", .glo "part", .glo "plus", .glo "minus", .glo "times", .glo "over", .glo "is_less", .glo "lesser", .glo "greater", .glo "total", .glo "product", .glo "raised", .glo "power", .glo "check_chance", .glo "other_way", .glo "least_of", .glo "greatest_of", .glo "told", .glo "_law_dice", .glo "_law_roll"]
def fa1 : List He.Fa := [.glo "_law_rounds", .glo "_law_told", .glo "law", .glo "ChanceFault", .glo "BadPart", .glo "BadSpread", .glo "BadTree", .glo "BadPaper", .glo "BadSize", .glo "BadText", .glo "BadStore", .glo "NoChance", .glo "NoSuch", .glo "NOUGHT", .glo "ONE", .free "len", .free "str", .free "abs", .free "int", .free "range"]
def fa2 : List He.Fa := [.exc "BadPart"]
def fa : List He.Fa := fa0 ++ fa1 ++ fa2
def ex (K : PySem.W.Frag) : Bool := exTold K && (He.tupB K "NOUGHT" [.int 0, .int 1] && (He.tupB K "ONE" [.int 1, .int 1] && (gcdB K)))
abbrev RWL : PySem.W.OpenLaw := PySem.Challenge.rw_luckwright_k01_exact_parts
abbrev RR : PySem.W.OpenRow := PySem.W.OpenLaw.row RWL
abbrev tf : List He.Defn := [(("law" : Str), none)]
def loose0 : List Str := ["ChanceFault", "BadPart", "BadSpread", "BadTree", "BadPaper", "BadSize", "BadText", "BadStore", "NoChance", "NoSuch", "NOUGHT", "ONE", "shared", "part", "plus", "minus", "times", "over", "is_less", "lesser"]
def loose1 : List Str := ["greater", "total", "product", "power", "raised", "check_chance", "other_way", "least_of", "greatest_of", "told", "_law_dice", "_law_roll", "_law_rounds", "_law_told"]
def loose : List Str := loose0 ++ loose1
theorem facts {w : World} {K : PySem.W.Frag} {h : Heap} {mg : Str → Option Value} {f0 : Addr} (X : K.In h) (G : h.Ns mainGlobals mg) (hfa : mg ("law" : Str) = some (.ref f0)) (c : He.SaysX fa fn [] tf ex w h K)
    (h0 : ∃ e, m_law_rounds [none, some (.sh (.int 1)), some (.sh (.list [])), none] = .rt e (.list [.list (intsD (diceOf 0))])) (h1 : ∀ z, ∃ e, m_law_rounds [none, some (.sh (.int 1)), some (.sh (.list [.int z])), none] = .rt e (.list [.list (intsD (diceOf z))]))
    (hm : ∀ z, Builtin.Int.intBits z ≤ 1048576 → ∃ e, m_law (startL 18 (diceOf z)) = .nx e ∧ e.length = 18) : LamX.LawAtS RWL w K (L2.CX RWL.prog w) 9 63 "script" mg f0 h := by
  obtain ⟨d_shared, D_shared⟩ := c.t.d.def_ 0 (d := defOf "shared" s_shared []) rfl
  obtain ⟨d_part, D_part⟩ := c.t.d.def_ 1 (d := defOf "part" s_part [.int 1]) rfl
  obtain ⟨d_plus, D_plus⟩ := c.t.d.def_ 2 (d := defOf "plus" s_plus []) rfl
  obtain ⟨d_minus, D_minus⟩ := c.t.d.def_ 3 (d := defOf "minus" s_minus []) rfl
  obtain ⟨d_times, D_times⟩ := c.t.d.def_ 4 (d := defOf "times" s_times []) rfl
  obtain ⟨d_over, D_over⟩ := c.t.d.def_ 5 (d := defOf "over" s_over []) rfl
  obtain ⟨d_is_less, D_is_less⟩ := c.t.d.def_ 6 (d := defOf "is_less" s_is_less []) rfl
  obtain ⟨d_lesser, D_lesser⟩ := c.t.d.def_ 7 (d := defOf "lesser" s_lesser []) rfl
  obtain ⟨d_greater, D_greater⟩ := c.t.d.def_ 8 (d := defOf "greater" s_greater []) rfl
  obtain ⟨d_total, D_total⟩ := c.t.d.def_ 9 (d := defOf "total" s_total []) rfl
  obtain ⟨d_product, D_product⟩ := c.t.d.def_ 10 (d := defOf "product" s_product []) rfl
  obtain ⟨d_raised, D_raised⟩ := c.t.d.def_ 11 (d := defOf "raised" s_raised []) rfl
  obtain ⟨d_power, D_power⟩ := c.t.d.def_ 12 (d := defOf "power" s_power []) rfl
  obtain ⟨d_check_chance, D_check_chance⟩ := c.t.d.def_ 13 (d := defOf "check_chance" s_check_chance []) rfl
  obtain ⟨d_other_way, D_other_way⟩ := c.t.d.def_ 14 (d := defOf "other_way" s_other_way []) rfl
  obtain ⟨d_least_of, D_least_of⟩ := c.t.d.def_ 15 (d := defOf "least_of" s_least_of []) rfl
  obtain ⟨d_greatest_of, D_greatest_of⟩ := c.t.d.def_ 16 (d := defOf "greatest_of" s_greatest_of []) rfl
  obtain ⟨d_told, D_told⟩ := c.t.d.def_ 17 (d := defOf "told" s_told []) rfl
  obtain ⟨d_law_dice, D_law_dice⟩ := c.t.d.def_ 18 (d := defOf "_law_dice" s_law_dice []) rfl
  obtain ⟨d_law_roll, D_law_roll⟩ := c.t.d.def_ 19 (d := defOf "_law_roll" s_law_roll []) rfl
  obtain ⟨d_law_rounds, D_law_rounds⟩ := c.t.d.def_ 20 (d := defOf "_law_rounds" s_law_rounds []) rfl
  obtain ⟨d_law_told, D_law_told⟩ := c.t.d.def_ 21 (d := defOf "_law_told" s_law_told []) rfl
  obtain ⟨d_law, D_law⟩ := c.t.d.def_ 22 (d := defOf "law" s_law []) rfl
  have e0 := hfa.symm.trans (He.glo_ok X G (c.t.d.fact 22 (f := .glo "law") rfl))
  cases e0
  have cm := c.more
  obtain ⟨c_0, cm⟩ := He.ba cm
  obtain ⟨c_1, cm⟩ := He.ba cm
  obtain ⟨c_2, cm⟩ := He.ba cm
  have c_3 := cm
  obtain ⟨c1, hc⟩ : ∃ c1, d_law.code = .ref c1 := by
    obtain ⟨oc, od, dV, kV, doc, pm, an, cdv, ct, osl, e, lk, hcd, _, _⟩ := D_law.ex
    obtain ⟨c1, e1⟩ := He.codeIn_ref hcd
    exact ⟨c1, by rw [e]; exact e1⟩
  have ec : He.codeOf K (("law" : Str), none) = c1 := by
    obtain ⟨oc, od, dV, kV, doc, pm, an, cdv, ct, osl, e, lk, hcd, _, _⟩ := D_law.ex
    exact He.codeOf_eq lk hc
  have mem : (("law" : Str), (none : Option Str)) ∈ tf := List.mem_singleton.mpr rfl
  have b : Binds K d_law ["script"] [] := FunD.bindsN D_law fun _ _ _ _ _ _ us hl => match us, hl with | [_], _ => rfl
  have bA := FunD.bindsA (ps := ["script"]) D_law fun _ _ _ _ _ _ us hl => match us, hl with | [_], _ => rfl
  refine ⟨d_law, [He.cT K (("law" : Str), none)], spLaw K (C9 K (He.cT K (("law" : Str), none)).2), fun p hp => ?_, fun p hp => ?_, fun p hp => ?_, fun s u => bA s [u] rfl, fun H a ns _ hb hT hS => ⟨a, ns, rfl, hb, tabs0 (hT _ (List.mem_singleton.mpr rfl)), hS, fun _ => rfl⟩, fun base Xb Gb hTB => ?_⟩
  · rw [List.mem_singleton.mp hp]; exact c.empty _ mem
  · rw [List.mem_singleton.mp hp]; exact c.out _ mem
  · rw [List.mem_singleton.mp hp]; exact PySem.W.codeHd_of_K X (c.hd _ mem)
  have TB := hTB _ (List.mem_singleton.mpr rfl)
  rw [show (He.cT K (("law" : Str), none)).1 = c1 from ec] at TB
  generalize hPt : (He.cT K (("law" : Str), none)).2 = Pt at TB ⊢
  have X_BadPart : ExI K mg (C9 K Pt) "BadPart" 1 := exi9 X G (c.t.d.fact 24 (f := .glo "BadPart") rfl) (c.t.d.fact 40 (f := .exc "BadPart") rfl) rfl
  have n_len := He.free_ok X G (c.t.d.fact 35 (f := .free "len") rfl)
  have n_str := He.free_ok X G (c.t.d.fact 36 (f := .free "str") rfl)
  have n_abs := He.free_ok X G (c.t.d.fact 37 (f := .free "abs") rfl)
  have n_int := He.free_ok X G (c.t.d.fact 38 (f := .free "int") rfl)
  have n_range := He.free_ok X G (c.t.d.fact 39 (f := .free "range") rfl)
  have b_gcd := gcdB_ok X G c_3
  have t_NOUGHT : TupK K (He.ga K "NOUGHT") (intsD [0, 1]) := tup_ints c_1
  have g_NOUGHT := (He.glo_ok X G (c.t.d.fact 33 (f := .glo "NOUGHT") rfl))
  have t_ONE : TupK K (He.ga K "ONE") (intsD [1, 1]) := tup_ints c_2
  have g_ONE := (He.glo_ok X G (c.t.d.fact 34 (f := .glo "ONE") rfl))
  have F_shared := ok_shared (P := RWL.prog) (w := w) (base := base) (C := C9 K Pt) D_shared (He.glo_ok X G (c.t.d.fact 0 (f := .glo "shared") rfl)) b_gcd
  have F_part := ok_part (P := RWL.prog) (w := w) (base := base) (C := C9 K Pt) D_part (He.glo_ok X G (c.t.d.fact 1 (f := .glo "part") rfl)) F_shared X_BadPart
  have F_plus := ok_plus (P := RWL.prog) (w := w) (base := base) (C := C9 K Pt) D_plus (He.glo_ok X G (c.t.d.fact 2 (f := .glo "plus") rfl)) F_part
  have F_minus := ok_minus (P := RWL.prog) (w := w) (base := base) (C := C9 K Pt) D_minus (He.glo_ok X G (c.t.d.fact 3 (f := .glo "minus") rfl)) F_part
  have F_times := ok_times (P := RWL.prog) (w := w) (base := base) (C := C9 K Pt) D_times (He.glo_ok X G (c.t.d.fact 4 (f := .glo "times") rfl)) F_part
  have F_over := ok_over (P := RWL.prog) (w := w) (base := base) (C := C9 K Pt) D_over (He.glo_ok X G (c.t.d.fact 5 (f := .glo "over") rfl)) F_part
  have F_is_less := ok_is_less (P := RWL.prog) (w := w) (base := base) (C := C9 K Pt) D_is_less (He.glo_ok X G (c.t.d.fact 6 (f := .glo "is_less") rfl)) F_minus
  have F_lesser := ok_lesser (P := RWL.prog) (w := w) (base := base) (C := C9 K Pt) D_lesser (He.glo_ok X G (c.t.d.fact 7 (f := .glo "lesser") rfl)) F_is_less F_part
  have F_greater := ok_greater (P := RWL.prog) (w := w) (base := base) (C := C9 K Pt) D_greater (He.glo_ok X G (c.t.d.fact 8 (f := .glo "greater") rfl)) F_is_less F_part
  have F_total := ok_total (P := RWL.prog) (w := w) (base := base) (C := C9 K Pt) D_total (He.glo_ok X G (c.t.d.fact 9 (f := .glo "total") rfl)) F_plus g_NOUGHT t_NOUGHT
  have F_product := ok_product (P := RWL.prog) (w := w) (base := base) (C := C9 K Pt) D_product (He.glo_ok X G (c.t.d.fact 10 (f := .glo "product") rfl)) F_times g_ONE t_ONE
  have F_raised := ok_raised (P := RWL.prog) (w := w) (base := base) (C := C9 K Pt) D_raised (He.glo_ok X G (c.t.d.fact 11 (f := .glo "raised") rfl)) X_BadPart
  have F_power := ok_power (P := RWL.prog) (w := w) (base := base) (C := C9 K Pt) D_power (He.glo_ok X G (c.t.d.fact 12 (f := .glo "power") rfl)) F_part F_raised
  have F_check_chance := ok_check_chance (P := RWL.prog) (w := w) (base := base) (C := C9 K Pt) D_check_chance (He.glo_ok X G (c.t.d.fact 13 (f := .glo "check_chance") rfl)) F_part X_BadPart
  have F_other_way := ok_other_way (P := RWL.prog) (w := w) (base := base) (C := C9 K Pt) D_other_way (He.glo_ok X G (c.t.d.fact 14 (f := .glo "other_way") rfl)) F_minus g_ONE t_ONE
  have F_least_of := ok_least_of (P := RWL.prog) (w := w) (base := base) (C := C9 K Pt) D_least_of (He.glo_ok X G (c.t.d.fact 15 (f := .glo "least_of") rfl)) F_lesser X_BadPart n_len
  have F_greatest_of := ok_greatest_of (P := RWL.prog) (w := w) (base := base) (C := C9 K Pt) D_greatest_of (He.glo_ok X G (c.t.d.fact 16 (f := .glo "greatest_of") rfl)) F_greater X_BadPart n_len
  have F_told := ok_told (P := RWL.prog) (w := w) (base := base) (C := C9 K Pt) D_told (He.glo_ok X G (c.t.d.fact 17 (f := .glo "told") rfl)) F_part n_str
  have F_law_dice := ok_law_dice (P := RWL.prog) (w := w) (base := base) (C := C9 K Pt) D_law_dice (He.glo_ok X G (c.t.d.fact 18 (f := .glo "_law_dice") rfl)) n_abs n_int
  have F_law_roll := ok_law_roll (P := RWL.prog) (w := w) (base := base) (C := C9 K Pt) D_law_roll (He.glo_ok X G (c.t.d.fact 19 (f := .glo "_law_roll") rfl)) n_int
  have FR := ok_law_rounds (P := RWL.prog) (w := w) (mg := mg) (base := base) (C := C9 K Pt) D_law_rounds F_law_dice h0 h1
  have bR : Binds K d_law_rounds ["script", "most"] [] := FunD.bindsN D_law_rounds fun _ _ _ _ _ _ us hl => match us, hl with | [_, _], _ => rfl
  have T : ToldI RWL.prog w K mg base (C9 K Pt) := ⟨lT9 K, _, d_law_told, toldL9 c_0, (He.glo_ok X G (c.t.d.fact 21 (f := .glo "_law_told") rfl)), D_law_told, fun cdg A outer s H => (.cons ⟨rfl, rfl, .inl (He.glo_ok X G (c.t.d.fact 24 (f := .glo "BadPart") rfl))⟩ (fun _ _ _ _ _ _ _ => pss_one (ps_ret pe_str)) (.cons ⟨rfl, rfl, .inl (He.glo_ok X G (c.t.d.fact 25 (f := .glo "BadSpread") rfl))⟩ (fun _ _ _ _ _ _ _ => pss_one (ps_ret pe_str)) (.cons ⟨rfl, rfl, .inl (He.glo_ok X G (c.t.d.fact 26 (f := .glo "BadTree") rfl))⟩ (fun _ _ _ _ _ _ _ => pss_one (ps_ret pe_str)) (.cons ⟨rfl, rfl, .inl (He.glo_ok X G (c.t.d.fact 27 (f := .glo "BadPaper") rfl))⟩ (fun _ _ _ _ _ _ _ => pss_one (ps_ret pe_str)) (.cons ⟨rfl, rfl, .inl (He.glo_ok X G (c.t.d.fact 28 (f := .glo "BadSize") rfl))⟩ (fun _ _ _ _ _ _ _ => pss_one (ps_ret pe_str)) (.cons ⟨rfl, rfl, .inl (He.glo_ok X G (c.t.d.fact 29 (f := .glo "BadText") rfl))⟩ (fun _ _ _ _ _ _ _ => pss_one (ps_ret pe_str)) (.cons ⟨rfl, rfl, .inl (He.glo_ok X G (c.t.d.fact 30 (f := .glo "BadStore") rfl))⟩ (fun _ _ _ _ _ _ _ => pss_one (ps_ret pe_str)) (.cons ⟨rfl, rfl, .inl (He.glo_ok X G (c.t.d.fact 31 (f := .glo "NoChance") rfl))⟩ (fun _ _ _ _ _ _ _ => pss_one (ps_ret pe_str)) (.cons ⟨rfl, rfl, .inl (He.glo_ok X G (c.t.d.fact 32 (f := .glo "NoSuch") rfl))⟩ (fun _ _ _ _ _ _ _ => pss_one (ps_ret pe_str)) .nil)))))))))⟩
  exact ok_law D_law hc F_law_roll F_part F_times F_minus F_plus F_over F_greater F_lesser F_is_less F_product F_total F_raised F_power F_greatest_of F_least_of F_other_way F_check_chance F_shared F_told n_range n_len n_str T TB rfl FR (He.glo_ok X G (c.t.d.fact 20 (f := .glo "_law_rounds") rfl)) D_law_rounds.kp bR hm
end K1

namespace K1
open PySem PySem.Spec PyProof.Rows L2 LW
abbrev T (p q : Int) : PyData := .tuple [.int p, .int q]
def tops : List Int := [-9, -8, -7, -6, -5, -4, -3, -2, -1, 0, 1, 2, 3, 4, 5, 6, 7, 8, 9]
def lows : List Int := [1, 2, 3, 4, 5, 6]
def rowsS : List (Int × Int) := tops.flatMap fun a => lows.map fun b => (a, b)
def small (r : Int × Int) : Int × Int := (r.1.fdiv (Nat.gcd r.1.natAbs r.2.natAbs : Nat), r.2.fdiv (Nat.gcd r.1.natAbs r.2.natAbs : Nat))
def isS (r : Int × Int) : Bool := Nat.beq (Nat.gcd r.1.natAbs r.2.natAbs) 1
def S : List (Int × Int) := rowsS.filter isS
def isOk (d : PyData) : R PyData → Bool
  | .ok e => eqF 3 e d && shF 3 e
  | _ => false
def noF : RE Bool → Bool
  | .ok (_, false) => true
  | _ => false
/-- the slots of one state -/
abbrev mini (i6 i8 i9 i10 i11 : Option Sl) : LEnv := [none, none, none, none, none, none, i6, none, i8, i9, i10, i11, none, none, none, none, none, none]
/-- the statements of the body, from the i-th on -/
abbrev J0 : Nat → Bool := fun _ => false
def vL0 : M := (mComp [5] (miR rg1 (maCons (mOp iAddA (mC (.int 2)) (mCallM 1 r_law_roll 1 (maCons (mC (.int 5)) maNil))) maNil)) (bName 5) mtYes (mTup (maCons (mOp iSub (mCallM 1 r_law_roll 1 (maCons (mC (.int 19)) maNil)) (mC (.int 9))) (maCons (mOp iAddA (mC (.int 1)) (mCallM 1 r_law_roll 1 (maCons (mC (.int 6)) maNil))) maNil))))
def mL0 : MS := mAsg (bName 3) vL0
def vL1 : M := (mComp [14, 15] (miSeq (mVar 3)) (bTup 2 (bCons (bName 14) (bCons (bName 15) bNil))) mtYes (mCall 2 r_part (maCons (mVar 14) (maCons (mVar 15) maNil))))
def mL1 : MS := mAsg (bName 4) vL1
def cF2 : MT := (mtOr (mtB (mOp iNe (mOp iMulA (mVar 14) (mOp iIx (mIxV 3 (mVar 5)) (mC (.int 1)))) (mOp iMulA (mOp iIx (mIxV 3 (mVar 5)) (mC (.int 0))) (mVar 15)))) (mtOr (mtB (mOp (iCmp fun i j => decide (i < j)) (mVar 15) (mC (.int 1)))) (mtOr (mtB (mOp iNe (mComp [17] (miR rg2 (maCons (mC (.int 2)) (maCons (mC (.int 10)) maNil))) (bName 17) (mtAnd (mtB (mOp iEq (mOp iMod (mVar 14) (mVar 17)) (mC (.int 0)))) (mtB (mOp iEq (mOp iMod (mVar 15) (mVar 17)) (mC (.int 0))))) (mVar 17)) (mLst maNil))) (mtB (mOp iNe (mCall 2 r_part (maCons (mOp iSub (mC (.int 0)) (mOp iIx (mIxV 3 (mVar 5)) (mC (.int 0)))) (maCons (mOp iSub (mC (.int 0)) (mOp iIx (mIxV 3 (mVar 5)) (mC (.int 1)))) maNil))) (mTup (maCons (mVar 14) (maCons (mVar 15) maNil))))))))
def bF2 : MS := mSeq (mAsg (bTup 2 (bCons (bName 14) (bCons (bName 15) bNil))) (mIxV 4 (mVar 5))) (mIfS cF2 (mRet (mC (.bool false))) mNext)
def mL2 : MS := mFor (miR rg1 (maCons (mCa cLen (maCons (mVar 3) maNil)) maNil)) (bName 5) bF2
def mL3 : MS := (mPar 10 11 (maCons (mIxV 4 (mC (.int 0))) (maCons (mIxV 4 (mC (.int 1))) maNil)))
def cL4 : MT := (mtOr (mtB (mOp iNe (mOp iMulA (mOp iMulA (mOp iIx (mCall 2 r_plus (maCons (mVar 10) (maCons (mVar 11) maNil))) (mC (.int 0))) (mIxV 10 (mC (.int 1)))) (mIxV 11 (mC (.int 1)))) (mOp iMulA (mOp iAddA (mOp iMulA (mIxV 10 (mC (.int 0))) (mIxV 11 (mC (.int 1)))) (mOp iMulA (mIxV 11 (mC (.int 0))) (mIxV 10 (mC (.int 1))))) (mOp iIx (mCall 2 r_plus (maCons (mVar 10) (maCons (mVar 11) maNil))) (mC (.int 1)))))) (mtOr (mtB (mOp iNe (mCall 2 r_minus (maCons (mCall 2 r_plus (maCons (mVar 10) (maCons (mVar 11) maNil))) (maCons (mVar 11) maNil))) (mVar 10))) (mtB (mOp iNe (mOp iMulA (mOp iMulA (mOp iIx (mCall 2 r_times (maCons (mVar 10) (maCons (mVar 11) maNil))) (mC (.int 0))) (mIxV 10 (mC (.int 1)))) (mIxV 11 (mC (.int 1)))) (mOp iMulA (mOp iMulA (mIxV 10 (mC (.int 0))) (mIxV 11 (mC (.int 0)))) (mOp iIx (mCall 2 r_times (maCons (mVar 10) (maCons (mVar 11) maNil))) (mC (.int 1))))))))
def mL4 : MS := mIfS cL4 (mRet (mC (.bool false))) mNext
def vL5 : M := (mOp (iCmp fun i j => decide (i < j)) (mOp iMulA (mIxV 10 (mC (.int 0))) (mIxV 11 (mC (.int 1)))) (mOp iMulA (mIxV 11 (mC (.int 0))) (mIxV 10 (mC (.int 1)))))
def mL5 : MS := mAsg (bName 6) vL5
def cL6 : MT := (mtOr (mtB (mOp iNe (mCall 2 r_is_less (maCons (mVar 10) (maCons (mVar 11) maNil))) (mVar 6))) (mtOr (mtB (mOp iNe (mCall 2 r_lesser (maCons (mVar 10) (maCons (mVar 11) maNil))) (mIf (mtTru (mVar 6)) (mVar 10) (mVar 11)))) (mtOr (mtB (mOp iNe (mCall 2 r_greater (maCons (mVar 10) (maCons (mVar 11) maNil))) (mIf (mtTru (mVar 6)) (mVar 11) (mVar 10)))) (mtAnd (mtB (mOp iNe (mIxV 11 (mC (.int 0))) (mC (.int 0)))) (mtOr (mtB (mOp iNe (mCall 2 r_times (maCons (mCall 2 r_over (maCons (mVar 10) (maCons (mVar 11) maNil))) (maCons (mVar 11) maNil))) (mVar 10))) (mtB (mOp (iCmp fun i j => decide (i < j)) (mOp iIx (mCall 2 r_over (maCons (mVar 10) (maCons (mVar 11) maNil))) (mC (.int 1))) (mC (.int 1)))))))))
def mL6 : MS := mIfS cL6 (mRet (mC (.bool false))) mNext
def vL7 : M := (mTup (maCons (mTup (maCons (mC (.int 0)) (maCons (mC (.int 1)) maNil))) (maCons (mTup (maCons (mC (.int 1)) (maCons (mC (.int 1)) maNil))) maNil)))
def mL7 : MS := mAsg (bTup 2 (bCons (bName 12) (bCons (bName 13) bNil))) vL7
def bF8 : MS := (mPar 12 13 (maCons (mCall 2 r_plus (maCons (mVar 12) (maCons (mVar 7) maNil))) (maCons (mCall 2 r_times (maCons (mVar 13) (maCons (mVar 7) maNil))) maNil)))
def mL8 : MS := mFor (miSeq (mVar 4)) (bName 7) bF8
def cL9 : MT := (mtOr (mtB (mOp iNe (mCall 1 r_total (maCons (mVar 4) maNil)) (mVar 12))) (mtOr (mtB (mOp iNe (mCall 1 r_product (maCons (mVar 4) maNil)) (mVar 13))) (mtOr (mtB (mOp iNe (mCall 1 r_total (maCons (mLst maNil) maNil)) (mTup (maCons (mC (.int 0)) (maCons (mC (.int 1)) maNil))))) (mtB (mOp iNe (mCall 1 r_product (maCons (mLst maNil) maNil)) (mTup (maCons (mC (.int 1)) (maCons (mC (.int 1)) maNil))))))))
def mL9 : MS := mIfS cL9 (mRet (mC (.bool false))) mNext
def vL10 : M := (mCallM 1 r_law_roll 1 (maCons (mC (.int 6)) maNil))
def mL10 : MS := mAsg (bName 8) vL10
def cL11 : MT := (mtOr (mtB (mOp iNe (mCall 2 r_power (maCons (mVar 10) (maCons (mVar 8) maNil))) (mCall 1 r_product (maCons (mOp iMulA (mLst (maCons (mVar 10) maNil)) (mVar 8)) maNil)))) (mtB (mOp iNe (mCall 2 r_raised (maCons (mC (.int 3)) (maCons (mVar 8) maNil))) (mOp iIx (mLst (maCons (mC (.int 1)) (maCons (mC (.int 3)) (maCons (mC (.int 9)) (maCons (mC (.int 27)) (maCons (mC (.int 81)) (maCons (mC (.int 243)) maNil))))))) (mVar 8)))))
def mL11 : MS := mIfS cL11 (mRet (mC (.bool false))) mNext
def cL12 : MT := (mtOr (mtB (mOp iNe (mComp [7] (miSeq (mVar 4)) (bName 7) (mtOr (mtTru (mCall 2 r_is_less (maCons (mVar 7) (maCons (mCall 1 r_least_of (maCons (mVar 4) maNil)) maNil)))) (mtTru (mCall 2 r_is_less (maCons (mCall 1 r_greatest_of (maCons (mVar 4) maNil)) (maCons (mVar 7) maNil))))) (mVar 7)) (mLst maNil))) (mtOr (mtB (mOp iNi (mCall 1 r_least_of (maCons (mVar 4) maNil)) (mVar 4))) (mtB (mOp iNi (mCall 1 r_greatest_of (maCons (mVar 4) maNil)) (mVar 4)))))
def mL12 : MS := mIfS cL12 (mRet (mC (.bool false))) mNext
def vL13 : M := (mChain (iCmp fun i j => decide (i ≤ j)) (iCmp fun i j => decide (i ≤ j)) (mC (.int 0)) (mIxV 10 (mC (.int 0))) (mIxV 10 (mC (.int 1))))
def mL13 : MS := mAsg (bName 9) vL13
def cL14 : MT := (mtOr (mtB (mOp iNe (mTold nmT (mCall 1 r_check_chance (maCons (mIxV 3 (mC (.int 0))) maNil))) (mIf (mtTru (mVar 9)) (mVar 10) (mC (.str (PySem.Str.ofString "part")))))) (mtAnd (mtTru (mVar 9)) (mtB (mOp iNe (mCall 2 r_plus (maCons (mCall 1 r_other_way (maCons (mVar 10) maNil)) (maCons (mVar 10) maNil))) (mTup (maCons (mC (.int 1)) (maCons (mC (.int 1)) maNil)))))))
def mL14 : MS := mIfS cL14 (mRet (mC (.bool false))) mNext
def cL15 : MT := (mtOr (mtB (mOp iNe (mCall 1 r_told (maCons (mVar 10) maNil)) (mIf (mtB (mOp iEq (mIxV 10 (mC (.int 1))) (mC (.int 1)))) (mCa cStr (maCons (mIxV 10 (mC (.int 0))) maNil)) (mOp iAddA (mOp iAddA (mCa cStr (maCons (mIxV 10 (mC (.int 0))) maNil)) (mC (.str (PySem.Str.ofString "/")))) (mCa cStr (maCons (mIxV 10 (mC (.int 1))) maNil)))))) (mtB (mOp iNe (mCall 2 r_shared (maCons (mC (.int 12)) (maCons (mC (.int 18)) maNil))) (mC (.int 6)))))
def mL15 : MS := mIfS cL15 (mRet (mC (.bool false))) mNext
theorem m_law_eq : m_law = (mSeq mL0 (mSeq mL1 (mSeq mL2 (mSeq mL3 (mSeq mL4 (mSeq mL5 (mSeq mL6 (mSeq mL7 (mSeq mL8 (mSeq mL9 (mSeq mL10 (mSeq mL11 (mSeq mL12 (mSeq mL13 (mSeq mL14 mL15))))))))))))))) := rfl
instance {i : Nat} : JF J0 i := ⟨rfl⟩
instance : Lc J0 0 cL4 := by unfold cL4; infer_instance
instance : Lc J0 0 vL5 := by unfold vL5; infer_instance
instance : Lc J0 0 cL6 := by unfold cL6; infer_instance
instance : Lc J0 0 cL11 := by unfold cL11; infer_instance
instance : Lc J0 0 vL13 := by unfold vL13; infer_instance
instance : Lc J0 0 cL15 := by unfold cL15; infer_instance
abbrev JK : Nat → Bool := fun i => Nat.beq i 3 || (Nat.beq i 4 || Nat.beq i 5)
instance : JF JK 14 := ⟨rfl⟩
instance : JF JK 15 := ⟨rfl⟩
instance : JF JK 17 := ⟨rfl⟩
instance : Ne1 17 := ⟨by decide⟩
instance : JT JK 5 3 := ⟨rfl, by decide⟩
instance : Lc JK 5 cF2 := by unfold cF2; infer_instance
end K1

namespace K1
open PySem PySem.Spec PyProof.Rows L2 LW
abbrev T2 (r : Int × Int) : PyData := T r.1 r.2
abbrev sT (r : Int × Int) : Option Sl := some (.sh (T r.1 r.2))
abbrev sI (i : Int) : Option Sl := some (.sh (.int i))
abbrev sB (b : Bool) : Option Sl := some (.sh (.bool b))
theorem eqT (p q r s : Int) : eqF 12 (T p q) (T r s) = (p == r && (q == s && true)) := rfl
theorem shT (p q : Int) : shF 12 (T p q) = true := rfl
theorem ix0 (p q : Int) : iIx (T p q) (.int 0) = .ok (.int p) := rfl
theorem ix1 (p q : Int) : iIx (T p q) (.int 1) = .ok (.int q) := rfl
def gz (a b : Int) : Int := ((Nat.gcd a.natAbs b.natAbs : Nat) : Int)
def sgz (a b : Int) : Int := bif decide (b < 0) then -(gz a b) else gz a b
def smz (a b : Int) : Int × Int := (a.fdiv (sgz a b), b.fdiv (sgz a b))
def okZ (a b : Int) : Bool := !(b == 0) && divOk (sgz a b)
def lo2 (a b : Int) : Bool := lowI a || lowI b
section
theorem part_eq {a b : Int} (h : okZ a b = true) : r_part [.int a, .int b] = .ok (T2 (smz a b)) := by
  unfold okZ at h
  have h1 : (b == 0) = false := by
    cases q : (b == 0) with
    | true => rw [q] at h; cases h
    | false => rfl
  have h2 : divOk (sgz a b) = true := by rw [h1] at h; exact h
  unfold sgz at h2
  cases q : decide (b < 0) with
  | true =>
    rw [q] at h2
    have h2 : divOk (-gz a b) = true := h2
    unfold gz at h2
    simp [mtOr, mtAnd, mtB, mtTru, mOp, mCall, mCallStar, maCons, maNil, mIxV, mVar, mC, nth, LW.R.bind, lif, gd, iNe, iEq, iMulA, iAddA, iSub, iIx, ixD, iCmp, mIf, mTup, mLst, mIfS, bindS, mSeq, mNext, mRet, mRai, mAsg, bName, eqF, eqA, shF, shA, deep, noRai, mUn, uNeg, truD, seqOf, mCa, cGcd, runS, outS, startE, iDiv, LW.small, r_part, m_part, r_shared, m_shared, smz, sgz, gz, h1, h2, q]
  | false =>
    rw [q] at h2
    have h2 : divOk (gz a b) = true := h2
    unfold gz at h2
    simp [mtOr, mtAnd, mtB, mtTru, mOp, mCall, mCallStar, maCons, maNil, mIxV, mVar, mC, nth, LW.R.bind, lif, gd, iNe, iEq, iMulA, iAddA, iSub, iIx, ixD, iCmp, mIf, mTup, mLst, mIfS, bindS, mSeq, mNext, mRet, mRai, mAsg, bName, eqF, eqA, shF, shA, deep, noRai, mUn, uNeg, truD, seqOf, mCa, cGcd, runS, outS, startE, iDiv, LW.small, r_part, m_part, r_shared, m_shared, smz, sgz, gz, h1, h2, q]

def plZ (a b : Int × Int) : Int × Int := smz (a.1 * b.2 + b.1 * a.2) (a.2 * b.2)
def miZ (a b : Int × Int) : Int × Int := smz (a.1 * b.2 - b.1 * a.2) (a.2 * b.2)
def tiZ (a b : Int × Int) : Int × Int := smz (a.1 * b.1) (a.2 * b.2)
def ovZ (a b : Int × Int) : Int × Int := smz (a.1 * b.2) (a.2 * b.1)
def okPl (a b : Int × Int) : Bool := lo2 a.1 b.2 && lo2 b.1 a.2 && lo2 a.2 b.2 && okZ (a.1 * b.2 + b.1 * a.2) (a.2 * b.2)
def okMi (a b : Int × Int) : Bool := lo2 a.1 b.2 && lo2 b.1 a.2 && lo2 a.2 b.2 && okZ (a.1 * b.2 - b.1 * a.2) (a.2 * b.2)
def okTi (a b : Int × Int) : Bool := lo2 a.1 b.1 && lo2 a.2 b.2 && okZ (a.1 * b.1) (a.2 * b.2)
def okOv (a b : Int × Int) : Bool := lo2 a.1 b.2 && lo2 a.2 b.1 && okZ (a.1 * b.2) (a.2 * b.1)
theorem plus_eq {a b : Int × Int} (h : okPl a b = true) : r_plus [T2 a, T2 b] = .ok (T2 (plZ a b)) := by
  simp only [okPl, lo2, Bool.and_eq_true] at h
  obtain ⟨⟨⟨h1, h2⟩, h3⟩, h4⟩ := h
  simp [mtOr, mtAnd, mtB, mtTru, mOp, mCall, mCallStar, maCons, maNil, mIxV, mVar, mC, nth, LW.R.bind, lif, gd, iNe, iEq, iMulA, iAddA, iSub, iIx, ixD, iCmp, mIf, mTup, mLst, mIfS, bindS, mSeq, mNext, mRet, mRai, mAsg, bName, eqF, eqA, shF, shA, deep, noRai, mUn, uNeg, truD, seqOf, mCa, cGcd, runS, outS, startE, iDiv, LW.small, r_plus, m_plus, ix0, ix1, h1, h2, h3, part_eq h4, plZ]
theorem minus_eq {a b : Int × Int} (h : okMi a b = true) : r_minus [T2 a, T2 b] = .ok (T2 (miZ a b)) := by
  simp only [okMi, lo2, Bool.and_eq_true] at h
  obtain ⟨⟨⟨h1, h2⟩, h3⟩, h4⟩ := h
  simp [mtOr, mtAnd, mtB, mtTru, mOp, mCall, mCallStar, maCons, maNil, mIxV, mVar, mC, nth, LW.R.bind, lif, gd, iNe, iEq, iMulA, iAddA, iSub, iIx, ixD, iCmp, mIf, mTup, mLst, mIfS, bindS, mSeq, mNext, mRet, mRai, mAsg, bName, eqF, eqA, shF, shA, deep, noRai, mUn, uNeg, truD, seqOf, mCa, cGcd, runS, outS, startE, iDiv, LW.small, r_minus, m_minus, ix0, ix1, h1, h2, h3, part_eq h4, miZ]
theorem times_eq {a b : Int × Int} (h : okTi a b = true) : r_times [T2 a, T2 b] = .ok (T2 (tiZ a b)) := by
  simp only [okTi, lo2, Bool.and_eq_true] at h
  obtain ⟨⟨h1, h2⟩, h3⟩ := h
  simp [mtOr, mtAnd, mtB, mtTru, mOp, mCall, mCallStar, maCons, maNil, mIxV, mVar, mC, nth, LW.R.bind, lif, gd, iNe, iEq, iMulA, iAddA, iSub, iIx, ixD, iCmp, mIf, mTup, mLst, mIfS, bindS, mSeq, mNext, mRet, mRai, mAsg, bName, eqF, eqA, shF, shA, deep, noRai, mUn, uNeg, truD, seqOf, mCa, cGcd, runS, outS, startE, iDiv, LW.small, r_times, m_times, ix0, ix1, h1, h2, part_eq h3, tiZ]
theorem over_eq {a b : Int × Int} (h : okOv a b = true) : r_over [T2 a, T2 b] = .ok (T2 (ovZ a b)) := by
  simp only [okOv, lo2, Bool.and_eq_true] at h
  obtain ⟨⟨h1, h2⟩, h3⟩ := h
  simp [mtOr, mtAnd, mtB, mtTru, mOp, mCall, mCallStar, maCons, maNil, mIxV, mVar, mC, nth, LW.R.bind, lif, gd, iNe, iEq, iMulA, iAddA, iSub, iIx, ixD, iCmp, mIf, mTup, mLst, mIfS, bindS, mSeq, mNext, mRet, mRai, mAsg, bName, eqF, eqA, shF, shA, deep, noRai, mUn, uNeg, truD, seqOf, mCa, cGcd, runS, outS, startE, iDiv, LW.small, r_over, m_over, ix0, ix1, h1, h2, part_eq h3, ovZ]
theorem less_eq {a b : Int × Int} (h : okMi a b = true) : r_is_less [T2 a, T2 b] = .ok (.bool (decide ((miZ a b).1 < 0))) := by
  simp [mtOr, mtAnd, mtB, mtTru, mOp, mCall, mCallStar, maCons, maNil, mIxV, mVar, mC, nth, LW.R.bind, lif, gd, iNe, iEq, iMulA, iAddA, iSub, iIx, ixD, iCmp, mIf, mTup, mLst, mIfS, bindS, mSeq, mNext, mRet, mRai, mAsg, bName, eqF, eqA, shF, shA, deep, noRai, mUn, uNeg, truD, seqOf, mCa, cGcd, runS, outS, startE, iDiv, LW.small, r_is_less, m_is_less, minus_eq h, ix0]
theorem lesser_eq {a b : Int × Int} (h : okMi b a = true) (ha : okZ a.1 a.2 = true) (hb : okZ b.1 b.2 = true) : r_lesser [T2 a, T2 b] = .ok (T2 (bif decide ((miZ b a).1 < 0) then smz b.1 b.2 else smz a.1 a.2)) := by
  cases q : decide ((miZ b a).1 < 0) with
  | true => simp [mtOr, mtAnd, mtB, mtTru, mOp, mCall, mCallStar, maCons, maNil, mIxV, mVar, mC, nth, LW.R.bind, lif, gd, iNe, iEq, iMulA, iAddA, iSub, iIx, ixD, iCmp, mIf, mTup, mLst, mIfS, bindS, mSeq, mNext, mRet, mRai, mAsg, bName, eqF, eqA, shF, shA, deep, noRai, mUn, uNeg, truD, seqOf, mCa, cGcd, runS, outS, startE, iDiv, LW.small, r_lesser, m_lesser, less_eq h, q, part_eq hb]
  | false => simp [mtOr, mtAnd, mtB, mtTru, mOp, mCall, mCallStar, maCons, maNil, mIxV, mVar, mC, nth, LW.R.bind, lif, gd, iNe, iEq, iMulA, iAddA, iSub, iIx, ixD, iCmp, mIf, mTup, mLst, mIfS, bindS, mSeq, mNext, mRet, mRai, mAsg, bName, eqF, eqA, shF, shA, deep, noRai, mUn, uNeg, truD, seqOf, mCa, cGcd, runS, outS, startE, iDiv, LW.small, r_lesser, m_lesser, less_eq h, q, part_eq ha]
theorem greater_eq {a b : Int × Int} (h : okMi a b = true) (ha : okZ a.1 a.2 = true) (hb : okZ b.1 b.2 = true) : r_greater [T2 a, T2 b] = .ok (T2 (bif decide ((miZ a b).1 < 0) then smz b.1 b.2 else smz a.1 a.2)) := by
  cases q : decide ((miZ a b).1 < 0) with
  | true => simp [mtOr, mtAnd, mtB, mtTru, mOp, mCall, mCallStar, maCons, maNil, mIxV, mVar, mC, nth, LW.R.bind, lif, gd, iNe, iEq, iMulA, iAddA, iSub, iIx, ixD, iCmp, mIf, mTup, mLst, mIfS, bindS, mSeq, mNext, mRet, mRai, mAsg, bName, eqF, eqA, shF, shA, deep, noRai, mUn, uNeg, truD, seqOf, mCa, cGcd, runS, outS, startE, iDiv, LW.small, r_greater, m_greater, less_eq h, q, part_eq hb]
  | false => simp [mtOr, mtAnd, mtB, mtTru, mOp, mCall, mCallStar, maCons, maNil, mIxV, mVar, mC, nth, LW.R.bind, lif, gd, iNe, iEq, iMulA, iAddA, iSub, iIx, ixD, iCmp, mIf, mTup, mLst, mIfS, bindS, mSeq, mNext, mRet, mRai, mAsg, bName, eqF, eqA, shF, shA, deep, noRai, mUn, uNeg, truD, seqOf, mCa, cGcd, runS, outS, startE, iDiv, LW.small, r_greater, m_greater, less_eq h, q, part_eq ha]
/-- a key of S: what it is times sixty -/
def key (a : Int × Int) : Int := a.1 * (60 / a.2)
def eq2 (a b : Int × Int) : Bool := a.1 == b.1 && a.2 == b.2
def pairF (a b : Int × Int) : Bool := okPl a b && okMi (plZ a b) b && eq2 (miZ (plZ a b) b) a && okTi a b &&
  ((plZ a b).1 * a.2 * b.2 == (a.1 * b.2 + b.1 * a.2) * (plZ a b).2) && ((tiZ a b).1 * a.2 * b.2 == a.1 * b.1 * (tiZ a b).2) && lowI (plZ a b).2 && lowI (tiZ a b).2 &&
  okMi a b && (decide ((miZ a b).1 < 0) == decide (a.1 * b.2 < b.1 * a.2)) && (decide (key a < key b) == decide (a.1 * b.2 < b.1 * a.2)) && (!(key a == key b) || eq2 a b) &&
  (b.1 == 0 || (okOv a b && decide (1 ≤ (ovZ a b).2) && okTi (ovZ a b) b && eq2 (tiZ (ovZ a b) b) a))
def oneF (a : Int × Int) : Bool := okZ a.1 a.2 && eq2 (smz a.1 a.2) a && lowI a.1 && lowI a.2 && decide (1 ≤ a.2) && decide (a.2 ≤ 6)

theorem oneS : S.all oneF = true := by kernel_rfl
end
end K1

namespace K1
open PySem PySem.Spec PyProof.Rows L2 LW
theorem pairS : S.all (fun a => S.all (pairF a)) = true := by kernel_rfl
def single1 (a : Int × Int) : Bool := (match vL13 (mini none none none (sT a) none) with
  | .ok (_, .bool l) => eqF 1 (.bool l) (.bool (decide (0 ≤ a.1) && decide (a.1 ≤ a.2)))
  | _ => false) && noF (cL15 (mini none none none (sT a) none))
def pow1 (a : Int × Int) : Bool := ([0, 1, 2, 3, 4, 5] : List Int).all fun c => noF (cL11 (mini none (sI c) none (sT a) none))
def miniK (r : Int × Int) : LEnv := [none, none, none, some (.sh (.list [T r.1 r.2])), some (.sh (.list [T (small r).1 (small r).2])), sI 0, none, none, none, none, none, none, none, none, sI (small r).1, sI (small r).2, none, none]
def inS (r : Int × Int) : Bool := S.any (eq2 r)
def row1 (r : Int × Int) : Bool := noF (cF2 (miniK r)) && inS (small r) && okZ r.1 r.2 && eq2 (smz r.1 r.2) (small r)
theorem single_ok : S.all single1 = true := by kernel_rfl
theorem pow_ok : S.all pow1 = true := by kernel_rfl
theorem row_ok : rowsS.all row1 = true := by kernel_rfl
end K1

namespace K1
open PySem PySem.Spec PyProof.Rows L2 LW
theorem noF_ok {r : RE Bool} (h : noF r = true) : ∃ e, r = .ok (e, false) := by
  unfold noF at h
  split at h
  · exact ⟨_, rfl⟩
  · cases h
theorem eq2_ok {a b : Int × Int} (h : eq2 a b = true) : a = b := by
  simp only [eq2, Bool.and_eq_true, beq_iff_eq] at h
  exact Prod.ext h.1 h.2
theorem inS_ok {r : Int × Int} (h : inS r = true) : r ∈ S := by
  obtain ⟨x, hx, e⟩ := List.any_eq_true.mp h
  rw [eq2_ok e]
  exact hx
section
variable {a b : Int × Int} (ha : a ∈ S) (hb : b ∈ S)
include ha
theorem s_one : okZ a.1 a.2 = true ∧ smz a.1 a.2 = a ∧ lowI a.1 = true ∧ lowI a.2 = true ∧ 1 ≤ a.2 ∧ a.2 ≤ 6 := by
  have h := List.all_eq_true.mp oneS a ha
  simp only [oneF, Bool.and_eq_true, decide_eq_true_eq] at h
  obtain ⟨⟨⟨⟨⟨h1, h2⟩, h3⟩, h4⟩, h5⟩, h6⟩ := h
  exact ⟨h1, eq2_ok h2, h3, h4, h5, h6⟩
include hb
structure PairP (a b : Int × Int) : Prop where
  pl : okPl a b = true
  mi : okMi (plZ a b) b = true
  me : miZ (plZ a b) b = a
  ti : okTi a b = true
  x1 : (plZ a b).1 * a.2 * b.2 = (a.1 * b.2 + b.1 * a.2) * (plZ a b).2
  x2 : (tiZ a b).1 * a.2 * b.2 = a.1 * b.1 * (tiZ a b).2
  l1 : lowI (plZ a b).2 = true
  l2 : lowI (tiZ a b).2 = true
  mi2 : okMi a b = true
  ls : decide ((miZ a b).1 < 0) = decide (a.1 * b.2 < b.1 * a.2)
  ky : decide (key a < key b) = decide (a.1 * b.2 < b.1 * a.2)
  ke : key a = key b → a = b
  ov : b.1 = 0 ∨ (okOv a b = true ∧ 1 ≤ (ovZ a b).2 ∧ okTi (ovZ a b) b = true ∧ tiZ (ovZ a b) b = a)
theorem s_pair : PairP a b := by
  have h := List.all_eq_true.mp (List.all_eq_true.mp pairS a ha) b hb
  simp only [pairF, Bool.and_eq_true, beq_iff_eq, Bool.or_eq_true, decide_eq_true_eq] at h
  obtain ⟨⟨⟨⟨⟨⟨⟨⟨⟨⟨⟨⟨h1, h2⟩, h3⟩, h4⟩, h5⟩, h6⟩, h7⟩, h8⟩, h9⟩, h10⟩, h11⟩, h13⟩, h12⟩ := h
  refine ⟨h1, h2, eq2_ok h3, h4, h5, h6, h7, h8, h9, h10, h11, (fun e => by rcases h13 with h | h; (· rw [e] at h; simp at h); exact eq2_ok h), ?_⟩
  rcases h12 with h | ⟨⟨⟨g1, g2⟩, g3⟩, g4⟩
  · exact .inl h
  · exact .inr ⟨g1, g2, g3, eq2_ok g4⟩
theorem k_less : r_is_less [T2 a, T2 b] = .ok (.bool (decide (key a < key b))) := by
  have p := s_pair ha hb
  rw [less_eq p.mi2, p.ls, p.ky]
theorem k_lesser : r_lesser [T2 a, T2 b] = .ok (T2 (bif decide (key b < key a) then b else a)) := by
  have p := s_pair hb ha
  rw [lesser_eq p.mi2 (s_one ha).1 (s_one hb).1, p.ls, p.ky, (s_one ha).2.1, (s_one hb).2.1]
theorem k_greater : r_greater [T2 a, T2 b] = .ok (T2 (bif decide (key a < key b) then b else a)) := by
  have p := s_pair ha hb
  rw [greater_eq p.mi2 (s_one ha).1 (s_one hb).1, p.ls, p.ky, (s_one ha).2.1, (s_one hb).2.1]
end
section
theorem c4_ok {a b : Int × Int} (ha : a ∈ S) (hb : b ∈ S) : cL4 (mini none none none (sT a) (sT b)) = .ok (mini none none none (sT a) (sT b), false) := by
  have p := s_pair ha hb
  have oa := s_one ha
  have ob := s_one hb
  have e1 := plus_eq p.pl
  have e2 := minus_eq p.mi
  have e3 := times_eq p.ti
  rw [p.me] at e2
  simp only [T2] at e1 e2 e3
  simp [mtOr, mtAnd, mtB, mtTru, mOp, mCall, mCallStar, maCons, maNil, mIxV, mVar, mC, nth, LW.R.bind, lif, gd, iNe, iEq, iMulA, iAddA, iSub, iIx, ixD, iCmp, mIf, mTup, mLst, mIfS, bindS, mSeq, mNext, mRet, mRai, mAsg, bName, eqF, eqA, shF, shA, deep, noRai, mUn, uNeg, truD, seqOf, mCa, cGcd, runS, outS, startE, iDiv, LW.small, cL4, mini, e1, e2, e3, oa.2.2.1, oa.2.2.2.1, ob.2.2.1, ob.2.2.2.1, p.l1, p.l2, p.x1, p.x2, eqT, shT, ix0, ix1]
theorem c5_ok {a b : Int × Int} (ha : a ∈ S) (hb : b ∈ S) : vL5 (mini none none none (sT a) (sT b)) = .ok (mini none none none (sT a) (sT b), .bool (decide (key a < key b))) := by
  have p := s_pair ha hb
  have oa := s_one ha
  have ob := s_one hb
  rw [p.ky]
  simp [mtOr, mtAnd, mtB, mtTru, mOp, mCall, mCallStar, maCons, maNil, mIxV, mVar, mC, nth, LW.R.bind, lif, gd, iNe, iEq, iMulA, iAddA, iSub, iIx, ixD, iCmp, mIf, mTup, mLst, mIfS, bindS, mSeq, mNext, mRet, mRai, mAsg, bName, eqF, eqA, shF, shA, deep, noRai, mUn, uNeg, truD, seqOf, mCa, cGcd, runS, outS, startE, iDiv, LW.small, vL5, mini, oa.2.2.1, oa.2.2.2.1, ob.2.2.1, ob.2.2.2.1, ix0, ix1]
theorem c6_ok {a b : Int × Int} (ha : a ∈ S) (hb : b ∈ S) : ∃ e, cL6 (mini (sB (decide (key a < key b))) none none (sT a) (sT b)) = .ok (e, false) := by
  have p := s_pair ha hb
  have oa := s_one ha
  have ob := s_one hb
  have e1 := k_less ha hb
  have e2 := k_lesser ha hb
  have e3 := k_greater ha hb
  simp only [T2] at e1 e2 e3
  have x1 : (bif decide (key b < key a) then b else a) = (bif decide (key a < key b) then a else b) := by
    by_cases h1 : key a < key b
    · have h2 : ¬ key b < key a := by omega
      simp [mtOr, mtAnd, mtB, mtTru, mOp, mCall, mCallStar, maCons, maNil, mIxV, mVar, mC, nth, LW.R.bind, lif, gd, iNe, iEq, iMulA, iAddA, iSub, iIx, ixD, iCmp, mIf, mTup, mLst, mIfS, bindS, mSeq, mNext, mRet, mRai, mAsg, bName, eqF, eqA, shF, shA, deep, noRai, mUn, uNeg, truD, seqOf, mCa, cGcd, runS, outS, startE, iDiv, LW.small, h1, h2]
    · by_cases h2 : key b < key a
      · simp [mtOr, mtAnd, mtB, mtTru, mOp, mCall, mCallStar, maCons, maNil, mIxV, mVar, mC, nth, LW.R.bind, lif, gd, iNe, iEq, iMulA, iAddA, iSub, iIx, ixD, iCmp, mIf, mTup, mLst, mIfS, bindS, mSeq, mNext, mRet, mRai, mAsg, bName, eqF, eqA, shF, shA, deep, noRai, mUn, uNeg, truD, seqOf, mCa, cGcd, runS, outS, startE, iDiv, LW.small, h1, h2]
      · simp [mtOr, mtAnd, mtB, mtTru, mOp, mCall, mCallStar, maCons, maNil, mIxV, mVar, mC, nth, LW.R.bind, lif, gd, iNe, iEq, iMulA, iAddA, iSub, iIx, ixD, iCmp, mIf, mTup, mLst, mIfS, bindS, mSeq, mNext, mRet, mRai, mAsg, bName, eqF, eqA, shF, shA, deep, noRai, mUn, uNeg, truD, seqOf, mCa, cGcd, runS, outS, startE, iDiv, LW.small, h1, h2]; exact p.ke (by omega)
  rw [x1] at e2
  have x2 : b.1 = 0 ∨ (r_over [T2 a, T2 b] = .ok (T2 (ovZ a b)) ∧ r_times [T2 (ovZ a b), T2 b] = .ok (T2 a) ∧ 1 ≤ (ovZ a b).2) := by
    rcases p.ov with h | ⟨h1, h2, h3, h4⟩
    · exact .inl h
    · have := times_eq h3
      rw [h4] at this
      exact .inr ⟨over_eq h1, this, h2⟩
  simp only [T2] at e1 e2 e3 x2
  refine ⟨mini (sB (decide (key a < key b))) none none (sT a) (sT b), ?_⟩
  rcases x2 with h | ⟨h1, h2, h3⟩
  · cases q : decide (key a < key b) with
    | true => rw [q] at e1 e2 e3; simp at e2 e3; simp only [h] at e1 e2 e3; simp [mtOr, mtAnd, mtB, mtTru, mOp, mCall, mCallStar, maCons, maNil, mIxV, mVar, mC, nth, LW.R.bind, lif, gd, iNe, iEq, iMulA, iAddA, iSub, iIx, ixD, iCmp, mIf, mTup, mLst, mIfS, bindS, mSeq, mNext, mRet, mRai, mAsg, bName, eqF, eqA, shF, shA, deep, noRai, mUn, uNeg, truD, seqOf, mCa, cGcd, runS, outS, startE, iDiv, LW.small, cL6, mini, e1, e2, e3, h, eqT, shT, ix0, ix1]
    | false => rw [q] at e1 e2 e3; simp at e2 e3; simp only [h] at e1 e2 e3; simp [mtOr, mtAnd, mtB, mtTru, mOp, mCall, mCallStar, maCons, maNil, mIxV, mVar, mC, nth, LW.R.bind, lif, gd, iNe, iEq, iMulA, iAddA, iSub, iIx, ixD, iCmp, mIf, mTup, mLst, mIfS, bindS, mSeq, mNext, mRet, mRai, mAsg, bName, eqF, eqA, shF, shA, deep, noRai, mUn, uNeg, truD, seqOf, mCa, cGcd, runS, outS, startE, iDiv, LW.small, cL6, mini, e1, e2, e3, h, eqT, shT, ix0, ix1]
  · have h3' : ¬ (ovZ a b).2 < 1 := by omega
    cases q : decide (key a < key b) with
    | true => rw [q] at e1 e2 e3; simp at e2 e3; simp [mtOr, mtAnd, mtB, mtTru, mOp, mCall, mCallStar, maCons, maNil, mIxV, mVar, mC, nth, LW.R.bind, lif, gd, iNe, iEq, iMulA, iAddA, iSub, iIx, ixD, iCmp, mIf, mTup, mLst, mIfS, bindS, mSeq, mNext, mRet, mRai, mAsg, bName, eqF, eqA, shF, shA, deep, noRai, mUn, uNeg, truD, seqOf, mCa, cGcd, runS, outS, startE, iDiv, LW.small, cL6, mini, e1, e2, e3, h1, h2, h3', eqT, shT, ix0, ix1]
    | false => rw [q] at e1 e2 e3; simp at e2 e3; simp [mtOr, mtAnd, mtB, mtTru, mOp, mCall, mCallStar, maCons, maNil, mIxV, mVar, mC, nth, LW.R.bind, lif, gd, iNe, iEq, iMulA, iAddA, iSub, iIx, ixD, iCmp, mIf, mTup, mLst, mIfS, bindS, mSeq, mNext, mRet, mRai, mAsg, bName, eqF, eqA, shF, shA, deep, noRai, mUn, uNeg, truD, seqOf, mCa, cGcd, runS, outS, startE, iDiv, LW.small, cL6, mini, e1, e2, e3, h1, h2, h3', eqT, shT, ix0, ix1]
end
end K1

namespace K1
open PySem PySem.Spec PyProof.Rows L2 LW
/-! ### agreeing states, written out -/
def noOwn : LEnv → Bool
  | [] => true
  | some (.ow _ _) :: _ => false
  | _ :: r => noOwn r
theorem noOwn_ok : ∀ {e : LEnv} {i : Nat} {m : Bool} {ds : List PyData}, noOwn e = true → e[i]? ≠ some (some (.ow m ds))
  | [], _, _, _, _, h => by cases h
  | none :: r, 0, _, _, h, q => by cases q
  | none :: r, i + 1, _, _, h, q => noOwn_ok (e := r) h (by rw [List.getElem?_cons_succ] at q; exact q)
  | some (.sh d) :: r, 0, _, _, h, q => by cases q
  | some (.sh d) :: r, i + 1, _, _, h, q => noOwn_ok (e := r) h (by rw [List.getElem?_cons_succ] at q; exact q)
  | some (.ow _ _) :: r, _, _, _, h, q => by cases h
def own1 : LEnv → Bool
  | none :: _ :: r => noOwn r
  | _ => false
theorem own1_ok {e : LEnv} (h : own1 e = true) (i : Nat) (m : Bool) (ds : List PyData) (q : e[i]? = some (some (.ow m ds))) : i = 1 := by
  match e, h, i, q with
  | none :: a :: r, h, 0, q => cases q
  | none :: a :: r, h, 1, q => rfl
  | none :: a :: r, h, i + 2, q => exact absurd (by rw [List.getElem?_cons_succ, List.getElem?_cons_succ] at q; exact q) (noOwn_ok (e := r) h)
def SubL (J : Nat → Bool) : Nat → LEnv → LEnv → Prop
  | _, [], [] => True
  | i, a :: r, b :: r' => (J i = true ∨ a = none ∨ a = b) ∧ SubL J (i + 1) r r'
  | _, _, _ => False
theorem SubL.len {J : Nat → Bool} : ∀ {k : Nat} {e0 e : LEnv}, SubL J k e0 e → e0.length = e.length
  | _, [], [], _ => rfl
  | _, _ :: _, _ :: _, h => by rw [List.length_cons, List.length_cons, SubL.len h.2]
theorem SubL.get {J : Nat → Bool} : ∀ {k : Nat} {e0 e : LEnv} {i : Nat} {s : Sl}, SubL J k e0 e → J (k + i) = false → e0[i]? = some (some s) → e[i]? = some (some s)
  | _, a :: r, b :: r', 0, s, h, hj, q => by
    rcases h.1 with z | z | z
    · rw [Nat.add_zero] at hj; rw [z] at hj; cases hj
    · rw [z] at q; cases q
    · rw [← z]; exact q
  | k, a :: r, b :: r', i + 1, s, h, hj, q => by
    rw [List.getElem?_cons_succ] at q ⊢
    exact SubL.get h.2 (by rw [show k + 1 + i = k + (i + 1) by omega]; exact hj) q
theorem ag0 {e0 e : LEnv} (h0 : own1 e0 = true) (h1 : own1 e = true) (h : SubL J0 0 e0 e) : Ag J0 0 e0 e where
  len := h.len
  own0 := own1_ok h0
  own := own1_ok h1
  var := fun i s hi q => h.get rfl q
  hj := fun i z => by cases z
  ix := fun i z => by cases z
/-! ### rolls -/
section
theorem ixD0 (a : PyData) (r : List PyData) : ixD 0 (a :: r) = .ok a := rfl
theorem ixD1 (a b : PyData) (r : List PyData) : ixD 1 (a :: b :: r) = .ok b := rfl
theorem ixD2 (a b c : PyData) (r : List PyData) : ixD 2 (a :: b :: c :: r) = .ok c := rfl
theorem set0 (a b c v : PyData) (r : LEnv) : setAt 0 (some (.ow true [a, b, c]) :: r) (.int 0) v = .nx (some (.ow true [v, b, c]) :: r) := rfl
theorem set1 (a b c v : PyData) (r : LEnv) : setAt 0 (some (.ow true [a, b, c]) :: r) (.int 1) v = .nx (some (.ow true [a, v, c]) :: r) := rfl
theorem set2 (a b c v : PyData) (r : LEnv) : setAt 0 (some (.ow true [a, b, c]) :: r) (.int 2) v = .nx (some (.ow true [a, b, v]) :: r) := rfl
abbrev dS (d : Int × Int × Int) : Option Sl := some (.ow true [.int d.1, .int d.2.1, .int d.2.2])
theorem roll_ok (d : Int × Int × Int) (n : Int) (hn : n = 5 ∨ n = 6 ∨ n = 19) : ∃ (d' : Int × Int × Int) (v : Int), r_law_roll [.int d.1, .int d.2.1, .int d.2.2] [.int n] = .ok ([.int d'.1, .int d'.2.1, .int d'.2.2], .int v) ∧ 0 ≤ v ∧ v < n := by
  obtain ⟨x, y, t⟩ := d
  have n0 : 0 < n := by omega
  have g1 : notZ n = true := by rcases hn with rfl | rfl | rfl <;> rfl
  have g2 : divOk n = true := by rcases hn with rfl | rfl | rfl <;> rfl
  have g3 : lowI 48271 = true := rfl
  have g4 : lowI 69621 = true := rfl
  have g5 : notZ 2147483647 = true := rfl
  have g6 : divOk 7 = true := rfl
  by_cases h : (t == 2) = true ∨ ((t == 1) = true ∧ decide (0 < x) = true)
  · refine ⟨(x.fdiv n, y, t), x.fmod n, ?_, Int.fmod_nonneg_of_pos _ n0, Int.fmod_lt_of_pos _ n0⟩
    rcases h with h | ⟨h1, h2⟩
    · simp [mtOr, mtAnd, mtB, mtTru, mOp, mCall, mCallM, mCallStar, maCons, maNil, mIxV, mVar, mC, nth, LW.R.bind, lif, gd, iNe, iEq, iMulA, iAddA, iSub, iIx, iCmp, mIf, mTup, mLst, mIfS, bindS, mSeq, mNext, mRet, mRai, mAsg, bName, eqF, eqA, shF, shA, deep, noRai, mUn, uNeg, truD, seqOf, mCa, cGcd, cInt, runM, outM, outT, startM, startE, iDiv, iMod, mSetV, LW.small, r_law_roll, m_law_roll, h, g1, g2, ixD0, ixD1, ixD2, set0, set1, set2]
    · have h3 : (t == 2) = false := by
        have := eq_of_beq h1
        subst this; rfl
      simp [mtOr, mtAnd, mtB, mtTru, mOp, mCall, mCallM, mCallStar, maCons, maNil, mIxV, mVar, mC, nth, LW.R.bind, lif, gd, iNe, iEq, iMulA, iAddA, iSub, iIx, iCmp, mIf, mTup, mLst, mIfS, bindS, mSeq, mNext, mRet, mRai, mAsg, bName, eqF, eqA, shF, shA, deep, noRai, mUn, uNeg, truD, seqOf, mCa, cGcd, cInt, runM, outM, outT, startM, startE, iDiv, iMod, mSetV, LW.small, r_law_roll, m_law_roll, h1, h2, h3, g1, g2, ixD0, ixD1, ixD2, set0, set1, set2]
  · have h3 : (t == 2) = false := by
      cases q : (t == 2) with
      | true => exact absurd (.inl q) h
      | false => rfl
    refine ⟨((x * 48271 + y * 69621 + 11).fmod 2147483647, y + 1, 0), (((x * 48271 + y * 69621 + 11).fmod 2147483647).fdiv 7 + (x * 48271 + y * 69621 + 11).fmod 2147483647).fmod n, ?_, Int.fmod_nonneg_of_pos _ n0, Int.fmod_lt_of_pos _ n0⟩
    cases q1 : (t == 1) with
    | false => simp [mtOr, mtAnd, mtB, mtTru, mOp, mCall, mCallM, mCallStar, maCons, maNil, mIxV, mVar, mC, nth, LW.R.bind, lif, gd, iNe, iEq, iMulA, iAddA, iSub, iIx, iCmp, mIf, mTup, mLst, mIfS, bindS, mSeq, mNext, mRet, mRai, mAsg, bName, eqF, eqA, shF, shA, deep, noRai, mUn, uNeg, truD, seqOf, mCa, cGcd, cInt, runM, outM, outT, startM, startE, iDiv, iMod, mSetV, LW.small, r_law_roll, m_law_roll, q1, h3, g1, g2, g3, g4, g5, g6, ixD0, ixD1, ixD2, set0, set1, set2]
    | true =>
      have q2 : decide (0 < x) = false := by
        cases q : decide (0 < x) with
        | true => exact absurd (.inr ⟨q1, q⟩) h
        | false => rfl
      simp [mtOr, mtAnd, mtB, mtTru, mOp, mCall, mCallM, mCallStar, maCons, maNil, mIxV, mVar, mC, nth, LW.R.bind, lif, gd, iNe, iEq, iMulA, iAddA, iSub, iIx, iCmp, mIf, mTup, mLst, mIfS, bindS, mSeq, mNext, mRet, mRai, mAsg, bName, eqF, eqA, shF, shA, deep, noRai, mUn, uNeg, truD, seqOf, mCa, cGcd, cInt, runM, outM, outT, startM, startE, iDiv, iMod, mSetV, LW.small, r_law_roll, m_law_roll, q1, q2, h3, g1, g2, g3, g4, g5, g6, ixD0, ixD1, ixD2, set0, set1, set2]
end
end K1

namespace K1
open PySem PySem.Spec PyProof.Rows L2 LW
section
abbrev envD (d : Int × Int × Int) : LEnv := [none, dS d, none, none, none, none, none, none, none, none, none, none, none, none, none, none, none, none]
def bodyR : M := mTup (maCons (mOp iSub (mCallM 1 r_law_roll 1 (maCons (mC (.int 19)) maNil)) (mC (.int 9))) (maCons (mOp iAddA (mC (.int 1)) (mCallM 1 r_law_roll 1 (maCons (mC (.int 6)) maNil))) maNil))
theorem rows_in {u v : Int} (hu : 0 ≤ u ∧ u < 19) (hv : 0 ≤ v ∧ v < 6) : (u - 9, 1 + v) ∈ rowsS := by
  unfold rowsS
  refine List.mem_flatMap.mpr ⟨u - 9, ?_, List.mem_map.mpr ⟨1 + v, ?_, rfl⟩⟩
  · simp [mtOr, mtAnd, mtB, mtTru, mOp, mCall, mCallM, mCallStar, maCons, maNil, mIxV, mVar, mC, nth, LW.R.bind, lif, gd, iNe, iEq, iMulA, iAddA, iSub, iIx, iCmp, mIf, mTup, mLst, mIfS, bindS, mSeq, mNext, mRet, mRai, mAsg, bName, bTup, bCons, bNil, eqF, eqA, shF, shA, deep, noRai, mUn, uNeg, truD, seqOf, mCa, cGcd, cInt, iDiv, iMod, mSetV, LW.small, mtYes, miR, rg1, rg2, miSeq, near, tops]; omega
  · simp [mtOr, mtAnd, mtB, mtTru, mOp, mCall, mCallM, mCallStar, maCons, maNil, mIxV, mVar, mC, nth, LW.R.bind, lif, gd, iNe, iEq, iMulA, iAddA, iSub, iIx, iCmp, mIf, mTup, mLst, mIfS, bindS, mSeq, mNext, mRet, mRai, mAsg, bName, bTup, bCons, bNil, eqF, eqA, shF, shA, deep, noRai, mUn, uNeg, truD, seqOf, mCa, cGcd, cInt, iDiv, iMod, mSetV, LW.small, mtYes, miR, rg1, rg2, miSeq, near, lows]; omega
theorem rows_loop : ∀ (n : Nat) (i : Int) (d : Int × Int × Int), ∃ (d' : Int × Int × Int) (rows : List (Int × Int)), compL [5] (bName 5) mtYes bodyR (upFrom i n) (envD d) = .ok (envD d', rows.map T2) ∧ rows.length = n ∧ ∀ r ∈ rows, r ∈ rowsS
  | 0, i, d => ⟨d, [], rfl, rfl, fun r h => by cases h⟩
  | n + 1, i, d => by
    obtain ⟨d1, u, h1, hu⟩ := roll_ok d 19 (.inr (.inr rfl))
    obtain ⟨d2, v, h2, hv⟩ := roll_ok d1 6 (.inr (.inl rfl))
    obtain ⟨d', rows, ih, hl, hm⟩ := rows_loop n (i + 1) d2
    refine ⟨d', (u - 9, 1 + v) :: rows, ?_, by rw [List.length_cons, hl], fun r hr => ?_⟩
    · have b1 : bodyR [none, dS d, none, none, none, some (.sh (.int i)), none, none, none, none, none, none, none, none, none, none, none, none] = .ok ([none, dS d2, none, none, none, some (.sh (.int i)), none, none, none, none, none, none, none, none, none, none, none, none], T2 (u - 9, 1 + v)) := by
        simp [mtOr, mtAnd, mtB, mtTru, mOp, mCall, mCallM, mCallStar, maCons, maNil, mIxV, mVar, mC, nth, LW.R.bind, lif, gd, iNe, iEq, iMulA, iAddA, iSub, iIx, iCmp, mIf, mTup, mLst, mIfS, bindS, mSeq, mNext, mRet, mRai, mAsg, bName, bTup, bCons, bNil, eqF, eqA, shF, shA, deep, noRai, mUn, uNeg, truD, seqOf, mCa, cGcd, cInt, iDiv, iMod, mSetV, LW.small, mtYes, miR, rg1, rg2, miSeq, near, bodyR, h1, h2]
      show (noRai (bodyR [none, dS d, none, none, none, some (.sh (.int i)), none, none, none, none, none, none, none, none, none, none, none, none])).bind _ = _
      rw [b1]
      show (compL [5] (bName 5) mtYes bodyR (upFrom (i + 1) n) (envD d2)).bind _ = _
      rw [ih]
      rfl
    · rcases List.mem_cons.mp hr with rfl | h
      · exact rows_in hu hv
      · exact hm r h
abbrev envR (d : Int × Int × Int) (rows : List PyData) : LEnv := [none, dS d, none, some (.sh (.list rows)), none, none, none, none, none, none, none, none, none, none, none, none, none, none]
theorem L0 (d : Int × Int × Int) : ∃ (d' : Int × Int × Int) (rows : List (Int × Int)), mL0 (envD d) = .nx (envR d' (rows.map T2)) ∧ 2 ≤ rows.length ∧ rows.length ≤ 6 ∧ ∀ r ∈ rows, r ∈ rowsS := by
  obtain ⟨d1, u, h1, hu⟩ := roll_ok d 5 (.inl rfl)
  obtain ⟨d', rows, h, hl, hm⟩ := rows_loop (2 + u).toNat 0 d1
  refine ⟨d', rows, ?_, by omega, by omega, hm⟩
  have hn : Nat.ble (2 + u).natAbs 1000000 = true := Nat.ble_eq_true_of_le (by omega)
  have hb : Nat.blt (upFrom 0 (2 + u).toNat).length 1000000 = true := by
    rw [upFrom_length]; exact Nat.ble_eq_true_of_le (by omega)
  have e1 : (miR rg1 (maCons (mOp iAddA (mC (.int 2)) (mCallM 1 r_law_roll 1 (maCons (mC (.int 5)) maNil))) maNil)) (envD d) = .ok (envD d1, upFrom 0 (2 + u).toNat) := by
    simp [mtOr, mtAnd, mtB, mtTru, mOp, mCall, mCallM, mCallStar, maCons, maNil, mIxV, mVar, mC, nth, LW.R.bind, lif, gd, iNe, iEq, iMulA, iAddA, iSub, iIx, iCmp, mIf, mTup, mLst, mIfS, bindS, mSeq, mNext, mRet, mRai, mAsg, bName, bTup, bCons, bNil, eqF, eqA, shF, shA, deep, noRai, mUn, uNeg, truD, seqOf, mCa, cGcd, cInt, iDiv, iMod, mSetV, LW.small, mtYes, miR, rg1, rg2, miSeq, near, h1, hn]
  have e2 : vL0 (envD d) = .ok (envD d', .list (rows.map T2)) := by
    show ((miR rg1 (maCons (mOp iAddA (mC (.int 2)) (mCallM 1 r_law_roll 1 (maCons (mC (.int 5)) maNil))) maNil)) (envD d)).bind _ = _
    rw [e1]
    show gd (Nat.blt (upFrom 0 (2 + u).toNat).length 1000000) ((compL [5] (bName 5) mtYes bodyR (upFrom 0 (2 + u).toNat) (envD d1)).bind _) = _
    rw [hb, h]
    rfl
  unfold mL0 mAsg
  rw [e2]
  rfl
/-! the parts -/
abbrev envP (d : Int × Int × Int) (rows parts : List PyData) : LEnv := [none, dS d, none, some (.sh (.list rows)), some (.sh (.list parts)), none, none, none, none, none, none, none, none, none, none, none, none, none]
theorem row_at {r : Int × Int} (h : r ∈ rowsS) : noF (cF2 (miniK r)) = true ∧ small r ∈ S ∧ r_part [.int r.1, .int r.2] = .ok (T2 (small r)) := by
  have z := List.all_eq_true.mp row_ok r h
  simp only [row1, Bool.and_eq_true] at z
  obtain ⟨⟨⟨h1, h2⟩, h3⟩, h4⟩ := z
  exact ⟨h1, inS_ok h2, by rw [part_eq h3, eq2_ok h4]⟩
def partE : M := mCall 2 r_part (maCons (mVar 14) (maCons (mVar 15) maNil))
def bT : Bi := bTup 2 (bCons (bName 14) (bCons (bName 15) bNil))
theorem parts_loop (d : Int × Int × Int) (L : List PyData) : ∀ (rows : List (Int × Int)), (∀ r ∈ rows, r ∈ rowsS) → compL [14, 15] bT mtYes partE (rows.map T2) (envR d L) = .ok (envR d L, rows.map fun r => T2 (small r))
  | [], _ => rfl
  | r :: rows, h => by
    have p := (row_at (h r List.mem_cons_self)).2.2
    have ih := parts_loop d L rows fun x hx => h x (List.mem_cons_of_mem _ hx)
    show (noRai (partE [none, dS d, none, some (.sh (.list L)), none, none, none, none, none, none, none, none, none, none, sI r.1, sI r.2, none, none])).bind _ = _
    have e : partE [none, dS d, none, some (.sh (.list L)), none, none, none, none, none, none, none, none, none, none, sI r.1, sI r.2, none, none] = .ok ([none, dS d, none, some (.sh (.list L)), none, none, none, none, none, none, none, none, none, none, sI r.1, sI r.2, none, none], T2 (small r)) := by
      simp [mtOr, mtAnd, mtB, mtTru, mOp, mCall, mCallM, mCallStar, maCons, maNil, mIxV, mVar, mC, nth, LW.R.bind, lif, gd, iNe, iEq, iMulA, iAddA, iSub, iIx, iCmp, mIf, mTup, mLst, mIfS, bindS, mSeq, mNext, mRet, mRai, mAsg, bName, bTup, bCons, bNil, eqF, eqA, shF, shA, deep, noRai, mUn, uNeg, truD, seqOf, mCa, cGcd, cInt, iDiv, iMod, mSetV, LW.small, mtYes, miR, rg1, rg2, miSeq, near, partE, p]
    rw [e]
    show (compL [14, 15] bT mtYes partE (rows.map T2) (envR d L)).bind _ = _
    rw [ih]
    rfl
theorem L1 (d : Int × Int × Int) (rows : List (Int × Int)) (h : ∀ r ∈ rows, r ∈ rowsS) (hl : rows.length ≤ 6) : mL1 (envR d (rows.map T2)) = .nx (envP d (rows.map T2) (rows.map fun r => T2 (small r))) := by
  have hb : Nat.blt (rows.map T2).length 1000000 = true := by rw [List.length_map]; exact Nat.ble_eq_true_of_le (by omega)
  have e2 : vL1 (envR d (rows.map T2)) = .ok (envR d (rows.map T2), .list (rows.map fun r => T2 (small r))) := by
    show gd (Nat.blt (rows.map T2).length 1000000) ((compL [14, 15] bT mtYes partE (rows.map T2) (envR d (rows.map T2))).bind _) = _
    rw [hb, parts_loop d _ rows h]
    rfl
  unfold mL1 mAsg
  rw [e2]
  rfl
end
end K1

namespace K1
open PySem PySem.Spec PyProof.Rows L2 LW
section
abbrev sD (d : PyData) : Option Sl := some (.sh d)
abbrev EE (d : Int × Int × Int) (R P : List PyData) (x5 x6 x7 x8 x9 x10 x11 x12 x13 x14 x15 : Option Sl) : LEnv := [none, dS d, none, sD (.list R), sD (.list P), x5, x6, x7, x8, x9, x10, x11, x12, x13, x14, x15, none, none]
abbrev parts (rows : List (Int × Int)) : List PyData := rows.map fun r => T2 (small r)
theorem agK {d : Int × Int × Int} {rows : List (Int × Int)} {k : Nat} {r : Int × Int} (hr : rows[k]? = some r) : Ag JK 5 (miniK r) (EE d (rows.map T2) (parts rows) (sI (Int.ofNat k)) none none none none none none none none (sI (small r).1) (sI (small r).2)) where
  len := rfl
  own0 := own1_ok rfl
  own := own1_ok rfl
  var := fun i s hi q => SubL.get (J := JK) (k := 0) (by simp [mtOr, mtAnd, mtB, mtTru, mOp, mCall, mCallM, mCallStar, maCons, maNil, mIxV, mVar, mC, nth, LW.R.bind, lif, gd, iNe, iEq, iMulA, iAddA, iSub, iIx, iCmp, mIf, mTup, mLst, mIfS, bindS, mSeq, mNext, mRet, mRai, mAsg, bName, bTup, bCons, bNil, eqF, eqA, shF, shA, deep, noRai, mUn, uNeg, truD, seqOf, mCa, cGcd, cInt, iDiv, iMod, mSetV, LW.small, mtYes, miR, rg1, rg2, miSeq, near, mPar, SubL, miniK]) (by rw [Nat.zero_add]; exact hi) q
  hj := fun i _ => rfl
  ix := fun i hi hne => by
    have h : i = 3 ∨ i = 4 := by
      have hi : (Nat.beq i 3 || (Nat.beq i 4 || Nat.beq i 5)) = true := hi
      rcases Bool.or_eq_true_iff.mp hi with h | h
      · exact .inl (Nat.eq_of_beq_eq_true h)
      · rcases Bool.or_eq_true_iff.mp h with h | h
        · exact .inr (Nat.eq_of_beq_eq_true h)
        · exact absurd (Nat.eq_of_beq_eq_true h) hne
    rcases h with rfl | rfl
    · refine ⟨_, _, 0, k, rfl, rfl, rfl, rfl, fun z e => ?_⟩
      cases e
      rw [List.getElem?_map, hr]; rfl
    · refine ⟨_, _, 0, k, rfl, rfl, rfl, rfl, fun z e => ?_⟩
      cases e
      rw [List.getElem?_map, hr]; rfl
theorem k_loop {d : Int × Int × Int} {rows : List (Int × Int)} (h : ∀ r ∈ rows, r ∈ rowsS) : ∀ (m k : Nat) (x5 x14 x15 : Option Sl), k + m = rows.length → 0 < m →
    ∃ i p q : Int, forL (bName 5) bF2 (upFrom (Int.ofNat k) m) (EE d (rows.map T2) (parts rows) x5 none none none none none none none none x14 x15) = .nx (EE d (rows.map T2) (parts rows) (sI i) none none none none none none none none (sI p) (sI q))
  | 0, _, _, _, _, _, hm => absurd hm (by omega)
  | m + 1, k, x5, x14, x15, hk, _ => by
    have hlt : k < rows.length := by omega
    have hr : rows[k]? = some rows[k] := List.getElem?_eq_getElem hlt
    obtain ⟨r, er⟩ : ∃ r, r = rows[k] := ⟨_, rfl⟩
    rw [← er] at hr
    have f := row_at (h r (er ▸ List.getElem_mem hlt))
    obtain ⟨e0, f0⟩ := noF_ok f.1
    have eP : (parts rows)[k]? = some (T2 (small r)) := by rw [List.getElem?_map, hr]; rfl
    have i1 : mIxV 4 (mVar 5) (EE d (rows.map T2) (parts rows) (sI (Int.ofNat k)) none none none none none none none none x14 x15) = .ok (EE d (rows.map T2) (parts rows) (sI (Int.ofNat k)) none none none none none none none none x14 x15, T2 (small r)) := by
      show lif _ (match nth (parts rows) k with | some d => .ok d | none => .stuck) = _
      rw [nth_eq, eP]; rfl
    have s1 : bF2 (EE d (rows.map T2) (parts rows) (sI (Int.ofNat k)) none none none none none none none none x14 x15) = .nx (EE d (rows.map T2) (parts rows) (sI (Int.ofNat k)) none none none none none none none none (sI (small r).1) (sI (small r).2)) := by
      have a1 : mAsg (bTup 2 (bCons (bName 14) (bCons (bName 15) bNil))) (mIxV 4 (mVar 5)) (EE d (rows.map T2) (parts rows) (sI (Int.ofNat k)) none none none none none none none none x14 x15) = .nx (EE d (rows.map T2) (parts rows) (sI (Int.ofNat k)) none none none none none none none none (sI (small r).1) (sI (small r).2)) := by
        unfold mAsg
        rw [i1]
        rfl
      unfold bF2 mSeq
      rw [a1]
      exact if_no (agK hr) f0
    show ∃ i p q : Int, (match bF2 (EE d (rows.map T2) (parts rows) (sI (Int.ofNat k)) none none none none none none none none x14 x15) with
      | .nx e2 => forL (bName 5) bF2 (upFrom (Int.ofNat k + 1) m) e2
      | .ct e2 => forL (bName 5) bF2 (upFrom (Int.ofNat k + 1) m) e2
      | .bk e2 => .nx e2
      | .rt e2 d2 => .rt e2 d2
      | .rai c => .rai c
      | .stuck => .stuck) = _
    rw [s1]
    by_cases hm : m = 0
    · subst hm
      exact ⟨_, _, _, rfl⟩
    · exact k_loop h m (k + 1) _ _ _ (by omega) (by omega)
theorem L2' {d : Int × Int × Int} {rows : List (Int × Int)} (h : ∀ r ∈ rows, r ∈ rowsS) (h0 : 0 < rows.length) (h6 : rows.length ≤ 6) : ∃ i p q : Int, mL2 (EE d (rows.map T2) (parts rows) none none none none none none none none none none none) = .nx (EE d (rows.map T2) (parts rows) (sI i) none none none none none none none none (sI p) (sI q)) := by
  obtain ⟨i, p, q, e⟩ := k_loop (d := d) h rows.length 0 none none none (by omega) h0
  refine ⟨i, p, q, ?_⟩
  rw [← e]
  have e1 : miR rg1 (maCons (mCa cLen (maCons (mVar 3) maNil)) maNil) (EE d (rows.map T2) (parts rows) none none none none none none none none none none none) = .ok (EE d (rows.map T2) (parts rows) none none none none none none none none none none none, upFrom 0 rows.length) := by
    have hn : Nat.ble rows.length 1000000 = true := Nat.ble_eq_true_of_le (by omega)
    simp [mtOr, mtAnd, mtB, mtTru, mOp, mCall, mCallM, mCallStar, maCons, maNil, mIxV, mVar, mC, nth, LW.R.bind, lif, gd, iNe, iEq, iMulA, iAddA, iSub, iIx, iCmp, mIf, mTup, mLst, mIfS, bindS, mSeq, mNext, mRet, mRai, mAsg, bName, bTup, bCons, bNil, eqF, eqA, shF, shA, deep, noRai, mUn, uNeg, truD, seqOf, mCa, cGcd, cInt, iDiv, iMod, mSetV, LW.small, mtYes, miR, rg1, rg2, miSeq, near, mPar, cLen, hn]
  unfold mL2 mFor
  rw [e1]
  rfl
theorem L3 {d : Int × Int × Int} {R : List PyData} {a b : Int × Int} {t : List PyData} {i p q : Int} : mL3 (EE d R (T2 a :: T2 b :: t) (sI i) none none none none none none none none (sI p) (sI q)) = .nx (EE d R (T2 a :: T2 b :: t) (sI i) none none none none (sT a) (sT b) none none (sI p) (sI q)) := rfl
theorem L4 {d : Int × Int × Int} {R P : List PyData} {a b : Int × Int} {i p q : Int} (ha : a ∈ S) (hb : b ∈ S) : mL4 (EE d R P (sI i) none none none none (sT a) (sT b) none none (sI p) (sI q)) = .nx (EE d R P (sI i) none none none none (sT a) (sT b) none none (sI p) (sI q)) :=
  if_no (ag0 (e0 := mini none none none (sT a) (sT b)) rfl rfl (by simp [mtOr, mtAnd, mtB, mtTru, mOp, mCall, mCallM, mCallStar, maCons, maNil, mIxV, mVar, mC, nth, LW.R.bind, lif, gd, iNe, iEq, iMulA, iAddA, iSub, iIx, iCmp, mIf, mTup, mLst, mIfS, bindS, mSeq, mNext, mRet, mRai, mAsg, bName, bTup, bCons, bNil, eqF, eqA, shF, shA, deep, noRai, mUn, uNeg, truD, seqOf, mCa, cGcd, cInt, iDiv, iMod, mSetV, LW.small, mtYes, miR, rg1, rg2, miSeq, near, mPar, SubL, mini])) (c4_ok ha hb)
theorem L5 {d : Int × Int × Int} {R P : List PyData} {a b : Int × Int} {i p q : Int} (ha : a ∈ S) (hb : b ∈ S) : mL5 (EE d R P (sI i) none none none none (sT a) (sT b) none none (sI p) (sI q)) = .nx (EE d R P (sI i) (sB (decide (key a < key b))) none none none (sT a) (sT b) none none (sI p) (sI q)) :=
  asg_by (ag0 (e0 := mini none none none (sT a) (sT b)) rfl rfl (by simp [mtOr, mtAnd, mtB, mtTru, mOp, mCall, mCallM, mCallStar, maCons, maNil, mIxV, mVar, mC, nth, LW.R.bind, lif, gd, iNe, iEq, iMulA, iAddA, iSub, iIx, iCmp, mIf, mTup, mLst, mIfS, bindS, mSeq, mNext, mRet, mRai, mAsg, bName, bTup, bCons, bNil, eqF, eqA, shF, shA, deep, noRai, mUn, uNeg, truD, seqOf, mCa, cGcd, cInt, iDiv, iMod, mSetV, LW.small, mtYes, miR, rg1, rg2, miSeq, near, mPar, SubL, mini])) (c5_ok ha hb)
theorem L6 {d : Int × Int × Int} {R P : List PyData} {a b : Int × Int} {i p q : Int} (ha : a ∈ S) (hb : b ∈ S) : mL6 (EE d R P (sI i) (sB (decide (key a < key b))) none none none (sT a) (sT b) none none (sI p) (sI q)) = .nx (EE d R P (sI i) (sB (decide (key a < key b))) none none none (sT a) (sT b) none none (sI p) (sI q)) := by
  obtain ⟨e, h⟩ := c6_ok ha hb
  exact if_no (ag0 (e0 := mini (sB (decide (key a < key b))) none none (sT a) (sT b)) rfl rfl (by simp [mtOr, mtAnd, mtB, mtTru, mOp, mCall, mCallM, mCallStar, maCons, maNil, mIxV, mVar, mC, nth, LW.R.bind, lif, gd, iNe, iEq, iMulA, iAddA, iSub, iIx, iCmp, mIf, mTup, mLst, mIfS, bindS, mSeq, mNext, mRet, mRai, mAsg, bName, bTup, bCons, bNil, eqF, eqA, shF, shA, deep, noRai, mUn, uNeg, truD, seqOf, mCa, cGcd, cInt, iDiv, iMod, mSetV, LW.small, mtYes, miR, rg1, rg2, miSeq, near, mPar, SubL, mini])) h
theorem L7 {d : Int × Int × Int} {R P : List PyData} {x6 x10 x11 : Option Sl} {i p q : Int} : mL7 (EE d R P (sI i) x6 none none none x10 x11 none none (sI p) (sI q)) = .nx (EE d R P (sI i) x6 none none none x10 x11 (sT (0, 1)) (sT (1, 1)) (sI p) (sI q)) := rfl
end
end K1

namespace K1
open PySem PySem.Spec PyProof.Rows L2 LW
theorem smz_low {a b : Int} (h1 : 1 ≤ b) (h2 : b < 1073741824) : okZ a b = true ∧ 1 ≤ (smz a b).2 ∧ (smz a b).2 ≤ b := by
  have hs : sgz a b = gz a b := by
    have : decide (b < 0) = false := by simp; omega
    unfold sgz; rw [this]; rfl
  obtain ⟨n, rfl⟩ : ∃ n : Nat, b = n := ⟨b.toNat, by omega⟩
  have hn : 0 < n := by omega
  have hg : 0 < Nat.gcd a.natAbs n := Nat.gcd_pos_of_pos_right _ hn
  have hl : Nat.gcd a.natAbs n ≤ n := Nat.gcd_le_right _ hn
  have eg : gz a n = ((Nat.gcd a.natAbs n : Nat) : Int) := rfl
  obtain ⟨g, hg0⟩ : ∃ g, g = Nat.gcd a.natAbs n := ⟨_, rfl⟩
  rw [← hg0] at hg hl eg
  refine ⟨?_, ?_⟩
  · unfold okZ
    rw [hs, eg]
    have e1 : (((n : Int)) == 0) = false := by
      rw [beq_eq_false_iff_ne]; omega
    rw [e1]
    match g, hg with
    | g + 1, _ =>
      show (true && Nat.blt (g + 1) 1073741824) = true
      rw [Bool.true_and]
      exact Nat.ble_eq_true_of_le (by omega)
  · unfold smz
    rw [hs, eg]
    show 1 ≤ Int.fdiv (n : Int) (g : Int) ∧ Int.fdiv (n : Int) (g : Int) ≤ n
    rw [Int.fdiv_eq_ediv_of_nonneg _ (by omega)]
    have e2 : ((n : Int) / (g : Int)) = ((n / g : Nat) : Int) := by simp
    rw [e2]
    have h3 : 1 ≤ n / g := Nat.div_pos hl hg
    have h4 : n / g ≤ n := Nat.div_le_self _ _
    omega
def OkF : List (Int × Int) → Int × Int → Prop
  | [], _ => True
  | x :: l, p => okPl p x = true ∧ OkF l (plZ p x)
def OkG : List (Int × Int) → Int × Int → Prop
  | [], _ => True
  | x :: l, p => okTi p x = true ∧ OkG l (tiZ p x)
theorem low_mul {p x : Int} {j : Nat} (h1 : 1 ≤ p) (h2 : p ≤ 6 ^ j) (h3 : 1 ≤ x) (h4 : x ≤ 6) (hj : j < 6) : 1 ≤ p * x ∧ p * x ≤ 6 ^ (j + 1) ∧ p * x < 1073741824 := by
  have a : 1 * 1 ≤ p * x := Int.mul_le_mul h1 h3 (by omega) (by omega)
  have b : p * x ≤ 6 ^ j * 6 := Int.mul_le_mul h2 h4 (by omega) (by omega)
  have c : (6 : Int) ^ (j + 1) = 6 ^ j * 6 := Int.pow_succ ..
  have d : (6 : Int) ^ j * 6 ≤ 46656 := by
    have : j = 0 ∨ j = 1 ∨ j = 2 ∨ j = 3 ∨ j = 4 ∨ j = 5 := by omega
    rcases this with rfl | rfl | rfl | rfl | rfl | rfl <;> decide
  omega
theorem okF_of : ∀ (l : List (Int × Int)) (j : Nat) (p : Int × Int), (∀ x ∈ l, x ∈ S) → j + l.length ≤ 6 → 1 ≤ p.2 → p.2 ≤ 6 ^ j → OkF l p
  | [], _, _, _, _, _, _ => trivial
  | x :: l, j, p, h, hj, h1, h2 => by
    have o := s_one (h x List.mem_cons_self)
    obtain ⟨o1, o2, o3, o4, o5, o6⟩ := o
    rw [List.length_cons] at hj
    have m := low_mul (j := j) h1 h2 o5 o6 (by omega)
    have z := smz_low (a := p.1 * x.2 + x.1 * p.2) m.1 m.2.2
    refine ⟨?_, okF_of l (j + 1) (plZ p x) (fun y hy => h y (List.mem_cons_of_mem _ hy)) (by omega) z.2.1 (Int.le_trans z.2.2 m.2.1)⟩
    simp [okPl, lo2, o3, o4, z.1]
theorem okG_of : ∀ (l : List (Int × Int)) (j : Nat) (p : Int × Int), (∀ x ∈ l, x ∈ S) → j + l.length ≤ 6 → 1 ≤ p.2 → p.2 ≤ 6 ^ j → OkG l p
  | [], _, _, _, _, _, _ => trivial
  | x :: l, j, p, h, hj, h1, h2 => by
    have o := s_one (h x List.mem_cons_self)
    obtain ⟨o1, o2, o3, o4, o5, o6⟩ := o
    rw [List.length_cons] at hj
    have m := low_mul (j := j) h1 h2 o5 o6 (by omega)
    have z := smz_low (a := p.1 * x.1) m.1 m.2.2
    refine ⟨?_, okG_of l (j + 1) (tiZ p x) (fun y hy => h y (List.mem_cons_of_mem _ hy)) (by omega) z.2.1 (Int.le_trans z.2.2 m.2.1)⟩
    simp [okTi, lo2, o3, o4, z.1]
section
theorem total_loop (L : List PyData) : ∀ (l : List (Int × Int)) (p : Int × Int) (y : Option Sl), OkF l p → ∃ y', forL (bName 2) (mAsg (bName 1) (mCall 2 r_plus (maCons (mVar 1) (maCons (mVar 2) maNil)))) (l.map T2) [sD (.list L), sT p, y] = .nx [sD (.list L), sT (l.foldl plZ p), y']
  | [], p, y, _ => ⟨y, rfl⟩
  | x :: l, p, y, h => by
    obtain ⟨y', e⟩ := total_loop L l (plZ p x) (sT x) h.2
    refine ⟨y', ?_⟩
    rw [List.foldl_cons, ← e]
    have s : mAsg (bName 1) (mCall 2 r_plus (maCons (mVar 1) (maCons (mVar 2) maNil))) [sD (.list L), sT p, sT x] = .nx [sD (.list L), sT (plZ p x), sT x] := by
      simp [mtOr, mtAnd, mtB, mtTru, mOp, mCall, mCallM, mCallStar, maCons, maNil, mIxV, mVar, mC, nth, LW.R.bind, lif, gd, iNe, iEq, iMulA, iAddA, iSub, iIx, iCmp, mIf, mTup, mLst, mIfS, bindS, mSeq, mNext, mRet, mRai, mAsg, bName, bTup, bCons, bNil, eqF, eqA, shF, shA, deep, noRai, mUn, uNeg, truD, seqOf, mCa, cGcd, cInt, iDiv, iMod, mSetV, LW.small, mtYes, miR, rg1, rg2, miSeq, near, mPar, plus_eq h.1]
    show (match mAsg (bName 1) (mCall 2 r_plus (maCons (mVar 1) (maCons (mVar 2) maNil))) [sD (.list L), sT p, sT x] with
      | .nx e2 => forL (bName 2) (mAsg (bName 1) (mCall 2 r_plus (maCons (mVar 1) (maCons (mVar 2) maNil)))) (l.map T2) e2
      | .ct e2 => forL (bName 2) (mAsg (bName 1) (mCall 2 r_plus (maCons (mVar 1) (maCons (mVar 2) maNil)))) (l.map T2) e2
      | .bk e2 => .nx e2
      | .rt e2 d2 => .rt e2 d2
      | .rai c => .rai c
      | .stuck => .stuck) = _
    rw [s]
theorem total_eq {l : List (Int × Int)} (h : OkF l (0, 1)) : r_total [.list (l.map T2)] = .ok (T2 (l.foldl plZ (0, 1))) := by
  obtain ⟨y', e⟩ := total_loop (l.map T2) l (0, 1) none h
  show outS (mSeq (mFor (miSeq (mVar 0)) (bName 2) (mAsg (bName 1) (mCall 2 r_plus (maCons (mVar 1) (maCons (mVar 2) maNil))))) (mRet (mVar 1)) [sD (.list (l.map T2)), sT (0, 1), none]) = _
  show outS (match forL (bName 2) (mAsg (bName 1) (mCall 2 r_plus (maCons (mVar 1) (maCons (mVar 2) maNil)))) (l.map T2) [sD (.list (l.map T2)), sT (0, 1), none] with
    | .nx e => mRet (mVar 1) e
    | x => x) = _
  rw [e]
  rfl
theorem prod_loop (L : List PyData) : ∀ (l : List (Int × Int)) (p : Int × Int) (y : Option Sl), OkG l p → ∃ y', forL (bName 2) (mAsg (bName 1) (mCall 2 r_times (maCons (mVar 1) (maCons (mVar 2) maNil)))) (l.map T2) [sD (.list L), sT p, y] = .nx [sD (.list L), sT (l.foldl tiZ p), y']
  | [], p, y, _ => ⟨y, rfl⟩
  | x :: l, p, y, h => by
    obtain ⟨y', e⟩ := prod_loop L l (tiZ p x) (sT x) h.2
    refine ⟨y', ?_⟩
    rw [List.foldl_cons, ← e]
    have s : mAsg (bName 1) (mCall 2 r_times (maCons (mVar 1) (maCons (mVar 2) maNil))) [sD (.list L), sT p, sT x] = .nx [sD (.list L), sT (tiZ p x), sT x] := by
      simp [mtOr, mtAnd, mtB, mtTru, mOp, mCall, mCallM, mCallStar, maCons, maNil, mIxV, mVar, mC, nth, LW.R.bind, lif, gd, iNe, iEq, iMulA, iAddA, iSub, iIx, iCmp, mIf, mTup, mLst, mIfS, bindS, mSeq, mNext, mRet, mRai, mAsg, bName, bTup, bCons, bNil, eqF, eqA, shF, shA, deep, noRai, mUn, uNeg, truD, seqOf, mCa, cGcd, cInt, iDiv, iMod, mSetV, LW.small, mtYes, miR, rg1, rg2, miSeq, near, mPar, times_eq h.1]
    show (match mAsg (bName 1) (mCall 2 r_times (maCons (mVar 1) (maCons (mVar 2) maNil))) [sD (.list L), sT p, sT x] with
      | .nx e2 => forL (bName 2) (mAsg (bName 1) (mCall 2 r_times (maCons (mVar 1) (maCons (mVar 2) maNil)))) (l.map T2) e2
      | .ct e2 => forL (bName 2) (mAsg (bName 1) (mCall 2 r_times (maCons (mVar 1) (maCons (mVar 2) maNil)))) (l.map T2) e2
      | .bk e2 => .nx e2
      | .rt e2 d2 => .rt e2 d2
      | .rai c => .rai c
      | .stuck => .stuck) = _
    rw [s]
theorem prod_eq {l : List (Int × Int)} (h : OkG l (1, 1)) : r_product [.list (l.map T2)] = .ok (T2 (l.foldl tiZ (1, 1))) := by
  obtain ⟨y', e⟩ := prod_loop (l.map T2) l (1, 1) none h
  show outS (match forL (bName 2) (mAsg (bName 1) (mCall 2 r_times (maCons (mVar 1) (maCons (mVar 2) maNil)))) (l.map T2) [sD (.list (l.map T2)), sT (1, 1), none] with
    | .nx e => mRet (mVar 1) e
    | x => x) = _
  rw [e]
  rfl
theorem fold_loop {d : Int × Int × Int} {R P : List PyData} {x5 x6 x8 x9 x10 x11 x14 x15 : Option Sl} : ∀ (l : List (Int × Int)) (p q : Int × Int) (x7 : Option Sl), OkF l p → OkG l q → 0 < l.length →
    ∃ y, forL (bName 7) bF8 (l.map T2) (EE d R P x5 x6 x7 x8 x9 x10 x11 (sT p) (sT q) x14 x15) = .nx (EE d R P x5 x6 (sT y) x8 x9 x10 x11 (sT (l.foldl plZ p)) (sT (l.foldl tiZ q)) x14 x15)
  | [], _, _, _, _, _, h => absurd h (by decide)
  | x :: l, p, q, x7, h1, h2, _ => by
    have s : bF8 (EE d R P x5 x6 (sT x) x8 x9 x10 x11 (sT p) (sT q) x14 x15) = .nx (EE d R P x5 x6 (sT x) x8 x9 x10 x11 (sT (plZ p x)) (sT (tiZ q x)) x14 x15) := by
      simp [mtOr, mtAnd, mtB, mtTru, mOp, mCall, mCallM, mCallStar, maCons, maNil, mIxV, mVar, mC, nth, LW.R.bind, lif, gd, iNe, iEq, iMulA, iAddA, iSub, iIx, iCmp, mIf, mTup, mLst, mIfS, bindS, mSeq, mNext, mRet, mRai, mAsg, bName, bTup, bCons, bNil, eqF, eqA, shF, shA, deep, noRai, mUn, uNeg, truD, seqOf, mCa, cGcd, cInt, iDiv, iMod, mSetV, LW.small, mtYes, miR, rg1, rg2, miSeq, near, mPar, bF8, plus_eq h1.1, times_eq h2.1]
    show ∃ y, (match bF8 (EE d R P x5 x6 (sT x) x8 x9 x10 x11 (sT p) (sT q) x14 x15) with
      | .nx e2 => forL (bName 7) bF8 (l.map T2) e2
      | .ct e2 => forL (bName 7) bF8 (l.map T2) e2
      | .bk e2 => .nx e2
      | .rt e2 d2 => .rt e2 d2
      | .rai c => .rai c
      | .stuck => .stuck) = _
    rw [s]
    cases l with
    | nil => exact ⟨x, rfl⟩
    | cons z l => exact fold_loop (z :: l) (plZ p x) (tiZ q x) (sT x) h1.2 h2.2 (by simp)
theorem L8 {d : Int × Int × Int} {R : List PyData} {l : List (Int × Int)} {x6 x10 x11 : Option Sl} {i p q : Int} (h1 : OkF l (0, 1)) (h2 : OkG l (1, 1)) (h0 : 0 < l.length) : ∃ y, mL8 (EE d R (l.map T2) (sI i) x6 none none none x10 x11 (sT (0, 1)) (sT (1, 1)) (sI p) (sI q)) = .nx (EE d R (l.map T2) (sI i) x6 (sT y) none none x10 x11 (sT (l.foldl plZ (0, 1))) (sT (l.foldl tiZ (1, 1))) (sI p) (sI q)) :=
  fold_loop l (0, 1) (1, 1) none h1 h2 h0
theorem L9 {d : Int × Int × Int} {R : List PyData} {l : List (Int × Int)} {x6 x7 x10 x11 : Option Sl} {i p q : Int} (h1 : OkF l (0, 1)) (h2 : OkG l (1, 1)) : mL9 (EE d R (l.map T2) (sI i) x6 x7 none none x10 x11 (sT (l.foldl plZ (0, 1))) (sT (l.foldl tiZ (1, 1))) (sI p) (sI q)) = .nx (EE d R (l.map T2) (sI i) x6 x7 none none x10 x11 (sT (l.foldl plZ (0, 1))) (sT (l.foldl tiZ (1, 1))) (sI p) (sI q)) := by
  have t0 : r_total [.list []] = .ok (T 0 1) := rfl
  have p0 : r_product [.list []] = .ok (T 1 1) := rfl
  have e1 := total_eq h1
  have e2 := prod_eq h2
  simp only [T2] at e1 e2
  simp [mtOr, mtAnd, mtB, mtTru, mOp, mCall, mCallM, mCallStar, maCons, maNil, mIxV, mVar, mC, nth, LW.R.bind, lif, gd, iNe, iEq, iMulA, iAddA, iSub, iIx, iCmp, mIf, mTup, mLst, mIfS, bindS, mSeq, mNext, mRet, mRai, mAsg, bName, bTup, bCons, bNil, eqF, eqA, shF, shA, deep, noRai, mUn, uNeg, truD, seqOf, mCa, cGcd, cInt, iDiv, iMod, mSetV, LW.small, mtYes, miR, rg1, rg2, miSeq, near, mPar, mL9, cL9, e1, e2, t0, p0, eqT, shT]
end
end K1

namespace K1
open PySem PySem.Spec PyProof.Rows L2 LW
def goodB (a : Int × Int) : Bool := decide (0 ≤ a.1) && decide (a.1 ≤ a.2)
def chk1 (r : Int × Int) : Bool := match r_check_chance [T2 r] with
  | .ok (.tuple [.int x, .int y]) => goodB (small r) && eq2 (x, y) (small r)
  | .rai c => !(goodB (small r)) && Nat.beq c 1
  | _ => false
def c14b : MT := (mtAnd (mtTru (mVar 9)) (mtB (mOp iNe (mCall 2 r_plus (maCons (mCall 1 r_other_way (maCons (mVar 10) maNil)) (maCons (mVar 10) maNil))) (mTup (maCons (mC (.int 1)) (maCons (mC (.int 1)) maNil))))))
instance : Lc J0 0 c14b := by unfold c14b; infer_instance
theorem chk_ok : rowsS.all chk1 = true := by kernel_rfl
theorem other_ok : S.all (fun a => noF (c14b (mini none none (sB (goodB a)) (sT a) none))) = true := by kernel_rfl
/-! least, greatest -/
def lsF (f x : Int × Int) : Int × Int := bif decide (key x < key f) then x else f
def grF (f x : Int × Int) : Int × Int := bif decide (key f < key x) then x else f
theorem ls_mem : ∀ (l : List (Int × Int)) (f : Int × Int), l.foldl lsF f ∈ f :: l
  | [], f => List.mem_singleton.mpr rfl
  | x :: l, f => by
    rw [List.foldl_cons]
    have := ls_mem l (lsF f x)
    rcases List.mem_cons.mp this with h | h
    · rw [h]
      unfold lsF
      cases decide (key x < key f) with
      | true => exact List.mem_cons_of_mem _ List.mem_cons_self
      | false => exact List.mem_cons_self
    · exact List.mem_cons_of_mem _ (List.mem_cons_of_mem _ h)
theorem gr_mem : ∀ (l : List (Int × Int)) (f : Int × Int), l.foldl grF f ∈ f :: l
  | [], f => List.mem_singleton.mpr rfl
  | x :: l, f => by
    rw [List.foldl_cons]
    have := gr_mem l (grF f x)
    rcases List.mem_cons.mp this with h | h
    · rw [h]
      unfold grF
      cases decide (key f < key x) with
      | true => exact List.mem_cons_of_mem _ List.mem_cons_self
      | false => exact List.mem_cons_self
    · exact List.mem_cons_of_mem _ (List.mem_cons_of_mem _ h)
theorem ls_le : ∀ (l : List (Int × Int)) (f : Int × Int), key (l.foldl lsF f) ≤ key f ∧ ∀ x ∈ l, key (l.foldl lsF f) ≤ key x
  | [], f => ⟨Int.le_refl _, fun x h => by cases h⟩
  | x :: l, f => by
    rw [List.foldl_cons]
    have ⟨h1, h2⟩ := ls_le l (lsF f x)
    have h3 : key (lsF f x) ≤ key f ∧ key (lsF f x) ≤ key x := by
      unfold lsF
      by_cases h : key x < key f
      · rw [decide_eq_true h]; simp only [cond_true]; omega
      · rw [decide_eq_false h]; simp only [cond_false]; omega
    refine ⟨by omega, fun y hy => ?_⟩
    rcases List.mem_cons.mp hy with rfl | hy
    · omega
    · exact h2 y hy
theorem gr_le : ∀ (l : List (Int × Int)) (f : Int × Int), key f ≤ key (l.foldl grF f) ∧ ∀ x ∈ l, key x ≤ key (l.foldl grF f)
  | [], f => ⟨Int.le_refl _, fun x h => by cases h⟩
  | x :: l, f => by
    rw [List.foldl_cons]
    have ⟨h1, h2⟩ := gr_le l (grF f x)
    have h3 : key f ≤ key (grF f x) ∧ key x ≤ key (grF f x) := by
      unfold grF
      by_cases h : key f < key x
      · rw [decide_eq_true h]; simp only [cond_true]; omega
      · rw [decide_eq_false h]; simp only [cond_false]; omega
    refine ⟨by omega, fun y hy => ?_⟩
    rcases List.mem_cons.mp hy with rfl | hy
    · omega
    · exact h2 y hy
section
theorem least_loop (L : List PyData) : ∀ (l : List (Int × Int)) (f : Int × Int) (y : Option Sl), f ∈ S → (∀ x ∈ l, x ∈ S) → ∃ y', forL (bName 2) (mAsg (bName 1) (mCall 2 r_lesser (maCons (mVar 1) (maCons (mVar 2) maNil)))) (l.map T2) [sD (.list L), sT f, y] = .nx [sD (.list L), sT (l.foldl lsF f), y']
  | [], f, y, _, _ => ⟨y, rfl⟩
  | x :: l, f, y, hf, h => by
    have hx := h x List.mem_cons_self
    have hn : lsF f x ∈ S := by
      unfold lsF
      cases decide (key x < key f) with
      | true => exact hx
      | false => exact hf
    obtain ⟨y', e⟩ := least_loop L l (lsF f x) (sT x) hn fun z hz => h z (List.mem_cons_of_mem _ hz)
    refine ⟨y', ?_⟩
    rw [List.foldl_cons, ← e]
    have k : r_lesser [T f.1 f.2, T x.1 x.2] = .ok (T2 (lsF f x)) := k_lesser hf hx
    have s : mAsg (bName 1) (mCall 2 r_lesser (maCons (mVar 1) (maCons (mVar 2) maNil))) [sD (.list L), sT f, sT x] = .nx [sD (.list L), sT (lsF f x), sT x] := by
      simp [mtOr, mtAnd, mtB, mtTru, mOp, mCall, mCallM, mCallStar, maCons, maNil, mIxV, mVar, mC, nth, LW.R.bind, lif, gd, iNe, iEq, iMulA, iAddA, iSub, iIx, iCmp, mIf, mTup, mLst, mIfS, bindS, mSeq, mNext, mRet, mRai, mAsg, bName, bTup, bCons, bNil, eqF, eqA, shF, shA, deep, noRai, mUn, uNeg, truD, seqOf, mCa, cGcd, cInt, iDiv, iMod, mSetV, LW.small, mtYes, miR, rg1, rg2, miSeq, near, mPar, cLen, k]
    show (match mAsg (bName 1) (mCall 2 r_lesser (maCons (mVar 1) (maCons (mVar 2) maNil))) [sD (.list L), sT f, sT x] with
      | .nx e2 => forL (bName 2) (mAsg (bName 1) (mCall 2 r_lesser (maCons (mVar 1) (maCons (mVar 2) maNil)))) (l.map T2) e2
      | .ct e2 => forL (bName 2) (mAsg (bName 1) (mCall 2 r_lesser (maCons (mVar 1) (maCons (mVar 2) maNil)))) (l.map T2) e2
      | .bk e2 => .nx e2
      | .rt e2 d2 => .rt e2 d2
      | .rai c => .rai c
      | .stuck => .stuck) = _
    rw [s]
theorem great_loop (L : List PyData) : ∀ (l : List (Int × Int)) (f : Int × Int) (y : Option Sl), f ∈ S → (∀ x ∈ l, x ∈ S) → ∃ y', forL (bName 2) (mAsg (bName 1) (mCall 2 r_greater (maCons (mVar 1) (maCons (mVar 2) maNil)))) (l.map T2) [sD (.list L), sT f, y] = .nx [sD (.list L), sT (l.foldl grF f), y']
  | [], f, y, _, _ => ⟨y, rfl⟩
  | x :: l, f, y, hf, h => by
    have hx := h x List.mem_cons_self
    have hn : grF f x ∈ S := by
      unfold grF
      cases decide (key f < key x) with
      | true => exact hx
      | false => exact hf
    obtain ⟨y', e⟩ := great_loop L l (grF f x) (sT x) hn fun z hz => h z (List.mem_cons_of_mem _ hz)
    refine ⟨y', ?_⟩
    rw [List.foldl_cons, ← e]
    have k : r_greater [T f.1 f.2, T x.1 x.2] = .ok (T2 (grF f x)) := k_greater hf hx
    have s : mAsg (bName 1) (mCall 2 r_greater (maCons (mVar 1) (maCons (mVar 2) maNil))) [sD (.list L), sT f, sT x] = .nx [sD (.list L), sT (grF f x), sT x] := by
      simp [mtOr, mtAnd, mtB, mtTru, mOp, mCall, mCallM, mCallStar, maCons, maNil, mIxV, mVar, mC, nth, LW.R.bind, lif, gd, iNe, iEq, iMulA, iAddA, iSub, iIx, iCmp, mIf, mTup, mLst, mIfS, bindS, mSeq, mNext, mRet, mRai, mAsg, bName, bTup, bCons, bNil, eqF, eqA, shF, shA, deep, noRai, mUn, uNeg, truD, seqOf, mCa, cGcd, cInt, iDiv, iMod, mSetV, LW.small, mtYes, miR, rg1, rg2, miSeq, near, mPar, cLen, k]
    show (match mAsg (bName 1) (mCall 2 r_greater (maCons (mVar 1) (maCons (mVar 2) maNil))) [sD (.list L), sT f, sT x] with
      | .nx e2 => forL (bName 2) (mAsg (bName 1) (mCall 2 r_greater (maCons (mVar 1) (maCons (mVar 2) maNil)))) (l.map T2) e2
      | .ct e2 => forL (bName 2) (mAsg (bName 1) (mCall 2 r_greater (maCons (mVar 1) (maCons (mVar 2) maNil)))) (l.map T2) e2
      | .bk e2 => .nx e2
      | .rt e2 d2 => .rt e2 d2
      | .rai c => .rai c
      | .stuck => .stuck) = _
    rw [s]
theorem least_eq {a : Int × Int} {l : List (Int × Int)} (h : ∀ x ∈ a :: l, x ∈ S) : r_least_of [.list ((a :: l).map T2)] = .ok (T2 ((a :: l).foldl lsF a)) := by
  obtain ⟨y', e⟩ := least_loop ((a :: l).map T2) (a :: l) a none (h a List.mem_cons_self) h
  have c : mIfS (mtB (mOp iEq (mCa cLen (maCons (mVar 0) maNil)) (mC (.int 0)))) (mRai 1) mNext [sD (.list ((a :: l).map T2)), none, none] = .nx [sD (.list ((a :: l).map T2)), none, none] := by
    have z : (((l.length : Int) + 1) == 0) = false := by rw [beq_eq_false_iff_ne]; omega
    simp [mtOr, mtAnd, mtB, mtTru, mOp, mCall, mCallM, mCallStar, maCons, maNil, mIxV, mVar, mC, nth, LW.R.bind, lif, gd, iNe, iEq, iMulA, iAddA, iSub, iIx, iCmp, mIf, mTup, mLst, mIfS, bindS, mSeq, mNext, mRet, mRai, mAsg, bName, bTup, bCons, bNil, eqF, eqA, shF, shA, deep, noRai, mUn, uNeg, truD, seqOf, mCa, cGcd, cInt, iDiv, iMod, mSetV, LW.small, mtYes, miR, rg1, rg2, miSeq, near, mPar, cLen, z]
  show outS (mSeq (mIfS (mtB (mOp iEq (mCa cLen (maCons (mVar 0) maNil)) (mC (.int 0)))) (mRai 1) mNext) _ [sD (.list ((a :: l).map T2)), none, none]) = _
  unfold mSeq
  rw [c]
  show outS (match forL (bName 2) (mAsg (bName 1) (mCall 2 r_lesser (maCons (mVar 1) (maCons (mVar 2) maNil)))) ((a :: l).map T2) [sD (.list ((a :: l).map T2)), sT a, none] with
    | .nx e => mRet (mVar 1) e
    | x => x) = _
  rw [e]
  rfl
theorem great_eq {a : Int × Int} {l : List (Int × Int)} (h : ∀ x ∈ a :: l, x ∈ S) : r_greatest_of [.list ((a :: l).map T2)] = .ok (T2 ((a :: l).foldl grF a)) := by
  obtain ⟨y', e⟩ := great_loop ((a :: l).map T2) (a :: l) a none (h a List.mem_cons_self) h
  have c : mIfS (mtB (mOp iEq (mCa cLen (maCons (mVar 0) maNil)) (mC (.int 0)))) (mRai 1) mNext [sD (.list ((a :: l).map T2)), none, none] = .nx [sD (.list ((a :: l).map T2)), none, none] := by
    have z : (((l.length : Int) + 1) == 0) = false := by rw [beq_eq_false_iff_ne]; omega
    simp [mtOr, mtAnd, mtB, mtTru, mOp, mCall, mCallM, mCallStar, maCons, maNil, mIxV, mVar, mC, nth, LW.R.bind, lif, gd, iNe, iEq, iMulA, iAddA, iSub, iIx, iCmp, mIf, mTup, mLst, mIfS, bindS, mSeq, mNext, mRet, mRai, mAsg, bName, bTup, bCons, bNil, eqF, eqA, shF, shA, deep, noRai, mUn, uNeg, truD, seqOf, mCa, cGcd, cInt, iDiv, iMod, mSetV, LW.small, mtYes, miR, rg1, rg2, miSeq, near, mPar, cLen, z]
  show outS (mSeq (mIfS (mtB (mOp iEq (mCa cLen (maCons (mVar 0) maNil)) (mC (.int 0)))) (mRai 1) mNext) _ [sD (.list ((a :: l).map T2)), none, none]) = _
  unfold mSeq
  rw [c]
  show outS (match forL (bName 2) (mAsg (bName 1) (mCall 2 r_greater (maCons (mVar 1) (maCons (mVar 2) maNil)))) ((a :: l).map T2) [sD (.list ((a :: l).map T2)), sT a, none] with
    | .nx e => mRet (mVar 1) e
    | x => x) = _
  rw [e]
  rfl
end
end K1

namespace K1
open PySem PySem.Spec PyProof.Rows L2 LW
section
theorem L10 {d : Int × Int × Int} {RL P : List PyData} {x6 x7 x10 x11 x12 x13 : Option Sl} {i p q : Int} : ∃ (d' : Int × Int × Int) (c : Int), mL10 (EE d RL P (sI i) x6 x7 none none x10 x11 x12 x13 (sI p) (sI q)) = .nx (EE d' RL P (sI i) x6 x7 (sI c) none x10 x11 x12 x13 (sI p) (sI q)) ∧ 0 ≤ c ∧ c < 6 := by
  obtain ⟨d', c, h, hc⟩ := roll_ok d 6 (.inr (.inl rfl))
  exact ⟨d', c, by simp [mtOr, mtAnd, mtB, mtTru, mOp, mCall, mCallM, mCallStar, maCons, maNil, mIxV, mVar, mC, nth, LW.R.bind, lif, gd, iNe, iEq, iMulA, iAddA, iSub, iIx, iCmp, mIf, mTup, mLst, mIfS, bindS, mSeq, mNext, mRet, mRai, mAsg, bName, bTup, bCons, bNil, eqF, eqA, shF, shA, deep, noRai, mUn, uNeg, truD, seqOf, mCa, cGcd, cInt, iDiv, iMod, mSetV, LW.small, mtYes, miR, rg1, rg2, miSeq, near, mPar, cLen, mL10, vL10, h], hc⟩
theorem L11 {d : Int × Int × Int} {RL P : List PyData} {a b y t u : Int × Int} {l : Bool} {i p q c : Int} (ha : a ∈ S) (hc : 0 ≤ c ∧ c < 6) : mL11 (EE d RL P (sI i) (sB l) (sT y) (sI c) none (sT a) (sT b) (sT t) (sT u) (sI p) (sI q)) = .nx (EE d RL P (sI i) (sB l) (sT y) (sI c) none (sT a) (sT b) (sT t) (sT u) (sI p) (sI q)) := by
  have h := List.all_eq_true.mp pow_ok a ha
  unfold pow1 at h
  have h2 := List.all_eq_true.mp h c (by simp; omega)
  obtain ⟨e, h3⟩ := noF_ok h2
  exact if_no (ag0 (e0 := mini none (sI c) none (sT a) none) rfl rfl (by simp [mtOr, mtAnd, mtB, mtTru, mOp, mCall, mCallM, mCallStar, maCons, maNil, mIxV, mVar, mC, nth, LW.R.bind, lif, gd, iNe, iEq, iMulA, iAddA, iSub, iIx, iCmp, mIf, mTup, mLst, mIfS, bindS, mSeq, mNext, mRet, mRai, mAsg, bName, bTup, bCons, bNil, eqF, eqA, shF, shA, deep, noRai, mUn, uNeg, truD, seqOf, mCa, cGcd, cInt, iDiv, iMod, mSetV, LW.small, mtYes, miR, rg1, rg2, miSeq, near, mPar, cLen, SubL, mini])) h3
theorem sh_all : ∀ (l : List (Int × Int)), shA (shF 11) (l.map T2) = true
  | [] => rfl
  | x :: l => by
    show (true && shA (shF 11) (l.map T2)) = true
    rw [sh_all l]; rfl
theorem any_mem : ∀ (l : List (Int × Int)) (m : Int × Int), m ∈ l → anyEq (T2 m) (l.map T2) = true
  | [], _, h => by cases h
  | x :: l, m, h => by
    show (eqF 12 (T x.1 x.2) (T m.1 m.2) || anyEq (T2 m) (l.map T2)) = true
    rcases List.mem_cons.mp h with rfl | h
    · rw [eqT]; simp
    · rw [any_mem l m h, Bool.or_true]
def tst : MT := mtOr (mtTru (mCall 2 r_is_less (maCons (mVar 7) (maCons (mCall 1 r_least_of (maCons (mVar 4) maNil)) maNil)))) (mtTru (mCall 2 r_is_less (maCons (mCall 1 r_greatest_of (maCons (mVar 4) maNil)) (maCons (mVar 7) maNil))))
theorem none_out {d : Int × Int × Int} {RL : List PyData} {L : List (Int × Int)} {x5 x6 x8 x9 x10 x11 x12 x13 x14 x15 : Option Sl} {lo hi : Int × Int} (h1 : r_least_of [.list (L.map T2)] = .ok (T2 lo)) (h2 : r_greatest_of [.list (L.map T2)] = .ok (T2 hi)) (hlo : lo ∈ S) (hhi : hi ∈ S) :
    ∀ (l : List (Int × Int)), (∀ x ∈ l, x ∈ S ∧ key lo ≤ key x ∧ key x ≤ key hi) → compL [7] (bName 7) tst (mVar 7) (l.map T2) (EE d RL (L.map T2) x5 x6 none x8 x9 x10 x11 x12 x13 x14 x15) = .ok (EE d RL (L.map T2) x5 x6 none x8 x9 x10 x11 x12 x13 x14 x15, [])
  | [], _ => rfl
  | x :: l, h => by
    obtain ⟨hx, k1, k2⟩ := h x List.mem_cons_self
    have e1 : r_is_less [T x.1 x.2, T lo.1 lo.2] = .ok (.bool false) := by
      have := k_less hx hlo
      rw [decide_eq_false (by omega)] at this
      exact this
    have e2 : r_is_less [T hi.1 hi.2, T x.1 x.2] = .ok (.bool false) := by
      have := k_less hhi hx
      rw [decide_eq_false (by omega)] at this
      exact this
    have t1 : tst (EE d RL (L.map T2) x5 x6 (sT x) x8 x9 x10 x11 x12 x13 x14 x15) = .ok (EE d RL (L.map T2) x5 x6 (sT x) x8 x9 x10 x11 x12 x13 x14 x15, false) := by
      simp only [T2] at h1 h2
      simp [mtOr, mtAnd, mtB, mtTru, mOp, mCall, mCallM, mCallStar, maCons, maNil, mIxV, mVar, mC, nth, LW.R.bind, lif, gd, iNe, iEq, iMulA, iAddA, iSub, iIx, iCmp, mIf, mTup, mLst, mIfS, bindS, mSeq, mNext, mRet, mRai, mAsg, bName, bTup, bCons, bNil, eqF, eqA, shF, shA, deep, noRai, mUn, uNeg, truD, seqOf, mCa, cGcd, cInt, iDiv, iMod, mSetV, LW.small, mtYes, miR, rg1, rg2, miSeq, near, mPar, cLen, tst, h1, h2, e1, e2]
    show (noRai (tst (EE d RL (L.map T2) x5 x6 (sT x) x8 x9 x10 x11 x12 x13 x14 x15))).bind _ = _
    rw [t1]
    exact none_out h1 h2 hlo hhi l fun z hz => h z (List.mem_cons_of_mem _ hz)
theorem L12 {d : Int × Int × Int} {RL : List PyData} {a0 : Int × Int} {l : List (Int × Int)} {y : Int × Int} {x5 x6 x8 x9 x10 x11 x12 x13 x14 x15 : Option Sl} (h : ∀ x ∈ a0 :: l, x ∈ S) (hl : (a0 :: l).length ≤ 6) :
    mL12 (EE d RL ((a0 :: l).map T2) x5 x6 (sT y) x8 x9 x10 x11 x12 x13 x14 x15) = .nx (EE d RL ((a0 :: l).map T2) x5 x6 (sT y) x8 x9 x10 x11 x12 x13 x14 x15) := by
  have e1 := least_eq h
  have e2 := great_eq h
  have m1 := ls_mem (a0 :: l) a0
  have m2 := gr_mem (a0 :: l) a0
  have i1 : (a0 :: l).foldl lsF a0 ∈ a0 :: l := by rcases List.mem_cons.mp m1 with q | q; (· rw [q]; exact List.mem_cons_self); exact q
  have i2 : (a0 :: l).foldl grF a0 ∈ a0 :: l := by rcases List.mem_cons.mp m2 with q | q; (· rw [q]; exact List.mem_cons_self); exact q
  obtain ⟨L, eL⟩ : ∃ L, L = a0 :: l := ⟨_, rfl⟩
  obtain ⟨lo, elo⟩ : ∃ lo, lo = (a0 :: l).foldl lsF a0 := ⟨_, rfl⟩
  obtain ⟨hi, ehi⟩ : ∃ hi, hi = (a0 :: l).foldl grF a0 := ⟨_, rfl⟩
  have b : ∀ x ∈ L, x ∈ S ∧ key lo ≤ key x ∧ key x ≤ key hi := fun x hx => by
    rw [eL] at hx
    exact ⟨h x hx, by rw [elo]; exact (ls_le (a0 :: l) a0).2 x hx, by rw [ehi]; exact (gr_le (a0 :: l) a0).2 x hx⟩
  rw [← elo] at e1 i1
  rw [← ehi] at e2 i2
  rw [← eL] at e1 e2 i1 i2 hl ⊢
  have n := none_out (d := d) (RL := RL) (x5 := x5) (x6 := x6) (x8 := x8) (x9 := x9) (x10 := x10) (x11 := x11) (x12 := x12) (x13 := x13) (x14 := x14) (x15 := x15) e1 e2 (b lo i1).1 (b hi i2).1 L b
  have hb : Nat.blt (L.map T2).length 1000000 = true := by rw [List.length_map]; exact Nat.ble_eq_true_of_le (by omega)
  have c1 : mComp [7] (miSeq (mVar 4)) (bName 7) tst (mVar 7) (EE d RL (L.map T2) x5 x6 (sT y) x8 x9 x10 x11 x12 x13 x14 x15) = .ok (EE d RL (L.map T2) x5 x6 (sT y) x8 x9 x10 x11 x12 x13 x14 x15, .list []) := by
    show gd (Nat.blt (L.map T2).length 1000000) ((compL [7] (bName 7) tst (mVar 7) (L.map T2) (EE d RL (L.map T2) x5 x6 none x8 x9 x10 x11 x12 x13 x14 x15)).bind _) = _
    rw [hb, n]
    rfl
  have n1 : iNi (T2 lo) (.list (L.map T2)) = .ok (.bool false) := by
    show gd (true && shA (shF 11) (L.map T2)) (R.ok (PyData.bool (!anyEq (T2 lo) (L.map T2)))) = _
    rw [sh_all, any_mem L lo i1]; rfl
  have n2 : iNi (T2 hi) (.list (L.map T2)) = .ok (.bool false) := by
    show gd (true && shA (shF 11) (L.map T2)) (R.ok (PyData.bool (!anyEq (T2 hi) (L.map T2)))) = _
    rw [sh_all, any_mem L hi i2]; rfl
  have c2 : cL12 (EE d RL (L.map T2) x5 x6 (sT y) x8 x9 x10 x11 x12 x13 x14 x15) = .ok (EE d RL (L.map T2) x5 x6 (sT y) x8 x9 x10 x11 x12 x13 x14 x15, false) := by
    show mtOr (mtB (mOp iNe (mComp [7] (miSeq (mVar 4)) (bName 7) tst (mVar 7)) (mLst maNil))) (mtOr (mtB (mOp iNi (mCall 1 r_least_of (maCons (mVar 4) maNil)) (mVar 4))) (mtB (mOp iNi (mCall 1 r_greatest_of (maCons (mVar 4) maNil)) (mVar 4)))) _ = _
    have s1 : mtB (mOp iNe (mComp [7] (miSeq (mVar 4)) (bName 7) tst (mVar 7)) (mLst maNil)) (EE d RL (L.map T2) x5 x6 (sT y) x8 x9 x10 x11 x12 x13 x14 x15) = .ok (EE d RL (L.map T2) x5 x6 (sT y) x8 x9 x10 x11 x12 x13 x14 x15, false) := by
      unfold mtB mOp
      rw [c1]
      rfl
    have s2 : mtB (mOp iNi (mCall 1 r_least_of (maCons (mVar 4) maNil)) (mVar 4)) (EE d RL (L.map T2) x5 x6 (sT y) x8 x9 x10 x11 x12 x13 x14 x15) = .ok (EE d RL (L.map T2) x5 x6 (sT y) x8 x9 x10 x11 x12 x13 x14 x15, false) := by
      simp only [mtB, mOp, mCall, maCons, maNil, mVar, nth, LW.R.bind, e1, n1, lif, gd, List.length_cons, List.length_nil, Nat.beq]
    have s3 : mtB (mOp iNi (mCall 1 r_greatest_of (maCons (mVar 4) maNil)) (mVar 4)) (EE d RL (L.map T2) x5 x6 (sT y) x8 x9 x10 x11 x12 x13 x14 x15) = .ok (EE d RL (L.map T2) x5 x6 (sT y) x8 x9 x10 x11 x12 x13 x14 x15, false) := by
      simp only [mtB, mOp, mCall, maCons, maNil, mVar, nth, LW.R.bind, e2, n2, lif, gd, List.length_cons, List.length_nil, Nat.beq]
    unfold mtOr
    rw [s1]
    show R.bind (mtB (mOp iNi (mCall 1 r_least_of (maCons (mVar 4) maNil)) (mVar 4)) (EE d RL (L.map T2) x5 x6 (sT y) x8 x9 x10 x11 x12 x13 x14 x15)) _ = _
    rw [s2]
    exact s3
  unfold mL12 mIfS
  rw [c2]
  rfl
end
end K1

namespace K1
open PySem PySem.Spec PyProof.Rows L2 LW
section
theorem v13 {a : Int × Int} (ha : a ∈ S) : ∃ e, vL13 (mini none none none (sT a) none) = .ok (e, .bool (goodB a)) := by
  have h := List.all_eq_true.mp single_ok a ha
  unfold single1 at h
  rw [Bool.and_eq_true] at h
  have h := h.1
  split at h
  · rename_i e l q
    have : l = goodB a := eq_of_beq h
    rw [← this]
    exact ⟨_, q⟩
  · cases h
theorem L13 {d : Int × Int × Int} {RL P : List PyData} {a b y t u : Int × Int} {l : Bool} {i p q c : Int} (ha : a ∈ S) : mL13 (EE d RL P (sI i) (sB l) (sT y) (sI c) none (sT a) (sT b) (sT t) (sT u) (sI p) (sI q)) = .nx (EE d RL P (sI i) (sB l) (sT y) (sI c) (sB (goodB a)) (sT a) (sT b) (sT t) (sT u) (sI p) (sI q)) := by
  obtain ⟨e, h⟩ := v13 ha
  exact asg_by (ag0 (e0 := mini none none none (sT a) none) rfl rfl (by simp [mtOr, mtAnd, mtB, mtTru, mOp, mCall, mCallM, mCallStar, maCons, maNil, mIxV, mVar, mC, nth, LW.R.bind, lif, gd, iNe, iEq, iMulA, iAddA, iSub, iIx, iCmp, mIf, mTup, mLst, mIfS, bindS, mSeq, mNext, mRet, mRai, mAsg, bName, bTup, bCons, bNil, eqF, eqA, shF, shA, deep, noRai, mUn, uNeg, truD, seqOf, mCa, cGcd, cInt, iDiv, iMod, mSetV, LW.small, mtYes, miR, rg1, rg2, miSeq, near, mPar, cLen, SubL, mini])) h
theorem L15 {d : Int × Int × Int} {RL P : List PyData} {a b y t u : Int × Int} {l g : Bool} {i p q c : Int} (ha : a ∈ S) : mL15 (EE d RL P (sI i) (sB l) (sT y) (sI c) (sB g) (sT a) (sT b) (sT t) (sT u) (sI p) (sI q)) = .nx (EE d RL P (sI i) (sB l) (sT y) (sI c) (sB g) (sT a) (sT b) (sT t) (sT u) (sI p) (sI q)) := by
  have h := List.all_eq_true.mp single_ok a ha
  unfold single1 at h
  rw [Bool.and_eq_true] at h
  obtain ⟨e, h⟩ := noF_ok h.2
  exact if_no (ag0 (e0 := mini none none none (sT a) none) rfl rfl (by simp [mtOr, mtAnd, mtB, mtTru, mOp, mCall, mCallM, mCallStar, maCons, maNil, mIxV, mVar, mC, nth, LW.R.bind, lif, gd, iNe, iEq, iMulA, iAddA, iSub, iIx, iCmp, mIf, mTup, mLst, mIfS, bindS, mSeq, mNext, mRet, mRai, mAsg, bName, bTup, bCons, bNil, eqF, eqA, shF, shA, deep, noRai, mUn, uNeg, truD, seqOf, mCa, cGcd, cInt, iDiv, iMod, mSetV, LW.small, mtYes, miR, rg1, rg2, miSeq, near, mPar, cLen, SubL, mini])) h
theorem chk_at {r : Int × Int} (h : r ∈ rowsS) : (goodB (small r) = true ∧ r_check_chance [T2 r] = .ok (T2 (small r))) ∨ (goodB (small r) = false ∧ r_check_chance [T2 r] = .rai 1) := by
  have z := List.all_eq_true.mp chk_ok r h
  unfold chk1 at z
  split at z
  · rename_i x y q
    simp only [Bool.and_eq_true] at z
    refine .inl ⟨z.1, ?_⟩
    rw [q, ← eq2_ok z.2]
  · rename_i c q
    simp only [Bool.and_eq_true, Bool.not_eq_true'] at z
    obtain ⟨z1, z2⟩ := z
    refine .inr ⟨z1, ?_⟩
    rw [q, Nat.eq_of_beq_eq_true z2]
  · cases z
def c14a : MT := mtB (mOp iNe (mTold nmT (mCall 1 r_check_chance (maCons (mIxV 3 (mC (.int 0))) maNil))) (mIf (mtTru (mVar 9)) (mVar 10) (mC (.str (PySem.Str.ofString "part")))))
theorem L14 {d : Int × Int × Int} {RL P : List PyData} {r b y t u : Int × Int} {l : Bool} {i p q c : Int} (hr : r ∈ rowsS) : mL14 (EE d (T2 r :: RL) P (sI i) (sB l) (sT y) (sI c) (sB (goodB (small r))) (sT (small r)) (sT b) (sT t) (sT u) (sI p) (sI q)) = .nx (EE d (T2 r :: RL) P (sI i) (sB l) (sT y) (sI c) (sB (goodB (small r))) (sT (small r)) (sT b) (sT t) (sT u) (sI p) (sI q)) := by
  have hs := (row_at hr).2.1
  obtain ⟨e, ho⟩ := noF_ok (List.all_eq_true.mp other_ok _ hs)
  have a1 : c14a (EE d (T2 r :: RL) P (sI i) (sB l) (sT y) (sI c) (sB (goodB (small r))) (sT (small r)) (sT b) (sT t) (sT u) (sI p) (sI q)) = .ok (EE d (T2 r :: RL) P (sI i) (sB l) (sT y) (sI c) (sB (goodB (small r))) (sT (small r)) (sT b) (sT t) (sT u) (sI p) (sI q), false) := by
    obtain ⟨g, eg⟩ : ∃ g, g = goodB (small r) := ⟨_, rfl⟩
    have m1 : mTold nmT (mCall 1 r_check_chance (maCons (mIxV 3 (mC (.int 0))) maNil)) (EE d (T2 r :: RL) P (sI i) (sB l) (sT y) (sI c) (sB g) (sT (small r)) (sT b) (sT t) (sT u) (sI p) (sI q)) = .ok (EE d (T2 r :: RL) P (sI i) (sB l) (sT y) (sI c) (sB g) (sT (small r)) (sT b) (sT t) (sT u) (sI p) (sI q), bif g then T2 (small r) else .str "part") := by
      have f1 : mCall 1 r_check_chance (maCons (mIxV 3 (mC (.int 0))) maNil) (forgetOwn (EE d (T2 r :: RL) P (sI i) (sB l) (sT y) (sI c) (sB g) (sT (small r)) (sT b) (sT t) (sT u) (sI p) (sI q))) = lif (forgetOwn (EE d (T2 r :: RL) P (sI i) (sB l) (sT y) (sI c) (sB g) (sT (small r)) (sT b) (sT t) (sT u) (sI p) (sI q))) (r_check_chance [T2 r]) := rfl
      unfold mTold
      rw [f1]
      rcases chk_at hr with ⟨h1, h2⟩ | ⟨h1, h2⟩
      · rw [eg, h1, h2]; rfl
      · rw [eg, h1, h2]; rfl
    rw [← eg]
    unfold c14a mtB mOp
    rw [m1]
    cases g with
    | true => simp [mtOr, mtAnd, mtB, mtTru, mOp, mCall, mCallM, mCallStar, maCons, maNil, mIxV, mVar, mC, nth, LW.R.bind, lif, gd, iNe, iEq, iMulA, iAddA, iSub, iIx, iCmp, mIf, mTup, mLst, mIfS, bindS, mSeq, mNext, mRet, mRai, mAsg, bName, bTup, bCons, bNil, eqF, eqA, shF, shA, deep, noRai, mUn, uNeg, truD, seqOf, mCa, cGcd, cInt, iDiv, iMod, mSetV, LW.small, mtYes, miR, rg1, rg2, miSeq, near, mPar, cLen, eqT, shT]
    | false =>
      have k1 : shF 12 (.str "part") = true := by decide +kernel
      have k2 : eqF 12 (.str "part") (.str "part") = true := by decide +kernel
      simp only [mIf, mtTru, mVar, nth, LW.R.bind, lif, truD, cond_false, mC]
      show R.bind (lif _ (gd (shF 12 (.str "part") && shF 12 (.str "part")) (R.ok (PyData.bool (!eqF 12 (.str "part") (.str "part")))))) _ = _
      rw [k1, k2]
      rfl
  have a2 : mIfS c14b (mRet (mC (.bool false))) mNext (EE d (T2 r :: RL) P (sI i) (sB l) (sT y) (sI c) (sB (goodB (small r))) (sT (small r)) (sT b) (sT t) (sT u) (sI p) (sI q)) = .nx (EE d (T2 r :: RL) P (sI i) (sB l) (sT y) (sI c) (sB (goodB (small r))) (sT (small r)) (sT b) (sT t) (sT u) (sI p) (sI q)) :=
    if_no (ag0 (e0 := mini none none (sB (goodB (small r))) (sT (small r)) none) rfl rfl (by simp [mtOr, mtAnd, mtB, mtTru, mOp, mCall, mCallM, mCallStar, maCons, maNil, mIxV, mVar, mC, nth, LW.R.bind, lif, gd, iNe, iEq, iMulA, iAddA, iSub, iIx, iCmp, mIf, mTup, mLst, mIfS, bindS, mSeq, mNext, mRet, mRai, mAsg, bName, bTup, bCons, bNil, eqF, eqA, shF, shA, deep, noRai, mUn, uNeg, truD, seqOf, mCa, cGcd, cInt, iDiv, iMod, mSetV, LW.small, mtYes, miR, rg1, rg2, miSeq, near, mPar, cLen, SubL, mini])) ho
  have e1 : cL14 = mtOr c14a c14b := rfl
  unfold mL14 mIfS
  rw [e1]
  unfold mtOr
  rw [a1]
  exact a2
theorem seq_nx {a b : MS} {e e' : LEnv} (h : a e = .nx e') : mSeq a b e = b e' := by
  unfold mSeq
  rw [h]
theorem body_ok (d : Int × Int × Int) : ∃ e, m_law (envD d) = .nx e ∧ e.length = 18 := by
  obtain ⟨d1, rows, h0, l2, l6, hm⟩ := L0 d
  match rows, l2 with
  | r0 :: r1 :: rt, _ =>
    have h1 := L1 d1 (r0 :: r1 :: rt) hm l6
    obtain ⟨i, p, q, h2⟩ := L2' (d := d1) hm (by simp) l6
    have s0 := (row_at (hm r0 (by simp))).2.1
    have s1 := (row_at (hm r1 (by simp))).2.1
    have hS : ∀ x ∈ (small r0 :: small r1 :: rt.map small), x ∈ S := fun x hx => by
      have hx : x ∈ (r0 :: r1 :: rt).map small := hx
      obtain ⟨r, hr, rfl⟩ := List.mem_map.mp hx
      exact (row_at (hm r hr)).2.1
    have hL : (small r0 :: small r1 :: rt.map small).length ≤ 6 := by simpa using l6
    have eP : parts (r0 :: r1 :: rt) = (small r0 :: small r1 :: rt.map small).map T2 := by simp [mtOr, mtAnd, mtB, mtTru, mOp, mCall, mCallM, mCallStar, maCons, maNil, mIxV, mVar, mC, nth, LW.R.bind, lif, gd, iNe, iEq, iMulA, iAddA, iSub, iIx, iCmp, mIf, mTup, mLst, mIfS, bindS, mSeq, mNext, mRet, mRai, mAsg, bName, bTup, bCons, bNil, eqF, eqA, shF, shA, deep, noRai, mUn, uNeg, truD, seqOf, mCa, cGcd, cInt, iDiv, iMod, mSetV, LW.small, mtYes, miR, rg1, rg2, miSeq, near, mPar, cLen, parts]
    have okf := okF_of (small r0 :: small r1 :: rt.map small) 0 (0, 1) hS (by omega) (by decide) (by decide)
    have okg := okG_of (small r0 :: small r1 :: rt.map small) 0 (1, 1) hS (by omega) (by decide) (by decide)
    rw [m_law_eq, seq_nx h0, seq_nx (show mL1 _ = _ from h1)]
    rw [seq_nx (show mL2 (envP d1 _ _) = _ from h2)]
    rw [eP]
    have h3 : mL3 (EE d1 ((r0 :: r1 :: rt).map T2) ((small r0 :: small r1 :: rt.map small).map T2) (sI i) none none none none none none none none (sI p) (sI q)) = .nx (EE d1 ((r0 :: r1 :: rt).map T2) ((small r0 :: small r1 :: rt.map small).map T2) (sI i) none none none none (sT (small r0)) (sT (small r1)) none none (sI p) (sI q)) := L3
    rw [seq_nx h3, seq_nx (L4 s0 s1), seq_nx (L5 s0 s1), seq_nx (L6 s0 s1), seq_nx L7]
    obtain ⟨y, h8⟩ := L8 (d := d1) (R := (r0 :: r1 :: rt).map T2) (x6 := sB (decide (key (small r0) < key (small r1)))) (x10 := sT (small r0)) (x11 := sT (small r1)) (i := i) (p := p) (q := q) okf okg (by simp)
    rw [seq_nx (show mL8 _ = _ from h8), seq_nx (L9 okf okg)]
    obtain ⟨d2, c, h10, hc⟩ := L10 (d := d1) (RL := (r0 :: r1 :: rt).map T2) (P := (small r0 :: small r1 :: rt.map small).map T2) (x6 := sB (decide (key (small r0) < key (small r1)))) (x7 := sT y) (x10 := sT (small r0)) (x11 := sT (small r1)) (x12 := sT ((small r0 :: small r1 :: rt.map small).foldl plZ (0, 1))) (x13 := sT ((small r0 :: small r1 :: rt.map small).foldl tiZ (1, 1))) (i := i) (p := p) (q := q)
    rw [seq_nx h10, seq_nx (L11 s0 hc), seq_nx (L12 hS hL), seq_nx (L13 s0)]
    have h14 := L14 (d := d2) (RL := (r1 :: rt).map T2) (P := (small r0 :: small r1 :: rt.map small).map T2) (b := small r1) (y := y) (t := (small r0 :: small r1 :: rt.map small).foldl plZ (0, 1)) (u := (small r0 :: small r1 :: rt.map small).foldl tiZ (1, 1)) (l := decide (key (small r0) < key (small r1))) (i := i) (p := p) (q := q) (c := c) (hm r0 (by simp))
    have h14 : mL14 (EE d2 ((r0 :: r1 :: rt).map T2) _ _ _ _ _ _ _ _ _ _ _ _) = _ := h14
    rw [seq_nx h14]
    exact ⟨_, L15 s0, rfl⟩
end
end K1

namespace K1
open PySem PySem.Spec PyProof.Rows L2 LW
section
theorem dice_eq (z : Int) : r_law_dice [.int z] = .ok (.list (intsD (diceOf z))) := by
  have g1 : powOk 10 18 = true := rfl
  have g2 : notZ 1009 = true := rfl
  have g3 : ((10 : Int) ^ (Int.toNat 18)) = 10 ^ 18 := rfl
  have g4 : ((0 : Int) - 10) = -10 := rfl
  have ab : (if z < 0 then -z else z) = (z.natAbs : Int) := by split <;> omega
  by_cases h1 : -10 < z
  · by_cases h2 : z < 10
    · have e : diceOf z = [(z.natAbs : Int), 0, 2] := if_pos ⟨h1, h2⟩
      rw [e]
      simp [mtOr, mtAnd, mtB, mtTru, mOp, mCall, mCallM, mCallStar, maCons, maNil, mIxV, mVar, mC, nth, LW.R.bind, lif, gd, iNe, iEq, iMulA, iAddA, iSub, iIx, iCmp, mIf, mTup, mLst, mIfS, bindS, mSeq, mNext, mRet, mRai, mAsg, bName, eqF, eqA, shF, shA, deep, noRai, mUn, uNeg, truD, seqOf, mCa, cAbs, cInt, iDiv, iMod, iPow, LW.small, mtYes, miSeq, mChain, runS, outS, startE, r_law_dice, m_law_dice, g4, h1, h2, ab]
    · have e : diceOf z = [z, 1 + z.fmod 1009, if (10 : Int) ^ 18 ≤ z then 1 else 0] := if_neg fun h => h2 h.2
      rw [e]
      simp [mtOr, mtAnd, mtB, mtTru, mOp, mCall, mCallM, mCallStar, maCons, maNil, mIxV, mVar, mC, nth, LW.R.bind, lif, gd, iNe, iEq, iMulA, iAddA, iSub, iIx, iCmp, mIf, mTup, mLst, mIfS, bindS, mSeq, mNext, mRet, mRai, mAsg, bName, eqF, eqA, shF, shA, deep, noRai, mUn, uNeg, truD, seqOf, mCa, cAbs, cInt, iDiv, iMod, iPow, LW.small, mtYes, miSeq, mChain, runS, outS, startE, r_law_dice, m_law_dice, g4, h1, h2, g1, g2, g3]
  · have e : diceOf z = [z, 1 + z.fmod 1009, if (10 : Int) ^ 18 ≤ z then 1 else 0] := if_neg fun h => h1 h.1
    rw [e]
    simp [mtOr, mtAnd, mtB, mtTru, mOp, mCall, mCallM, mCallStar, maCons, maNil, mIxV, mVar, mC, nth, LW.R.bind, lif, gd, iNe, iEq, iMulA, iAddA, iSub, iIx, iCmp, mIf, mTup, mLst, mIfS, bindS, mSeq, mNext, mRet, mRai, mAsg, bName, eqF, eqA, shF, shA, deep, noRai, mUn, uNeg, truD, seqOf, mCa, cAbs, cInt, iDiv, iMod, iPow, LW.small, mtYes, miSeq, mChain, runS, outS, startE, r_law_dice, m_law_dice, g4, h1, g1, g2, g3]
end
theorem math2 (z : Int) (_ : Builtin.Int.intBits z ≤ 1048576) : ∃ e, m_law (startL 18 (diceOf z)) = .nx e ∧ e.length = 18 := by
  obtain ⟨a, b, c, h⟩ : ∃ a b c, diceOf z = [a, b, c] := by
    unfold diceOf
    split <;> exact ⟨_, _, _, rfl⟩
  rw [h]
  exact body_ok (a, b, c)
def roundE : M := mCall 1 r_law_dice (maCons (mVar 3) maNil)
theorem round1 (z : Int) : roundE [none, sI 1, sD (.list [.int z]), sI z] = .ok ([none, sI 1, sD (.list [.int z]), sI z], .list (intsD (diceOf z))) := by
  show lif _ (r_law_dice [.int z]) = _
  rw [dice_eq]
  rfl
theorem roundsC (z : Int) : compL [3] (bName 3) mtYes roundE [.int z] [none, sI 1, sD (.list [.int z]), none] = .ok ([none, sI 1, sD (.list [.int z]), none], [.list (intsD (diceOf z))]) := by
  show (noRai (roundE [none, sI 1, sD (.list [.int z]), sI z])).bind _ = _
  rw [round1]
  rfl
theorem roundsR (z : Int) : mRet (mComp [3] (miSeq (mVar 2)) (bName 3) mtYes roundE) [none, sI 1, sD (.list [.int z]), none] = .rt [none, sI 1, sD (.list [.int z]), none] (.list [.list (intsD (diceOf z))]) := by
  have h : mComp [3] (miSeq (mVar 2)) (bName 3) mtYes roundE [none, sI 1, sD (.list [.int z]), none] = .ok ([none, sI 1, sD (.list [.int z]), none], .list [.list (intsD (diceOf z))]) := by
    show (compL [3] (bName 3) mtYes roundE [.int z] [none, sI 1, sD (.list [.int z]), none]).bind _ = _
    rw [roundsC]
    rfl
  unfold mRet
  rw [h]
  rfl
theorem math0 : ∃ e, m_law_rounds [none, some (.sh (.int 1)), some (.sh (.list [])), none] = .rt e (.list [.list (intsD (diceOf 0))]) := ⟨_, roundsR 0⟩
theorem math1 (z : Int) : ∃ e, m_law_rounds [none, some (.sh (.int 1)), some (.sh (.list [.int z])), none] = .rt e (.list [.list (intsD (diceOf z))]) := ⟨_, roundsR z⟩
end K1

namespace K1
open PySem PySem.Spec PyProof.Rows L2 LW
abbrev hk : PySem.W.Hook := He.hookX 4 fa fn [] tf ex
def ob (s : PySem.W.SharedT) : He.AlX := He.obsX 4 fa fn [] tf ex (HandSHeadRun.getT s)
theorem ob_eq (s : PySem.W.SharedT) : ob s = hk.obs s.abs := He.obsX_eq (HandSHeadRun.getT_eq s)
theorem run (w : World) : HandSHeadRun.RunEqI RR (PySem.W.view RR.prog [0, 38]) hk ob 4000 loose w := by
  unfold HandSHeadRun.RunEqI
  kernel_rfl
end K1

open PySem PySem.W PySem.Calls PyProof.Rows
theorem PySem.Challenge.cw_luckwright_k01_exact_parts_holds : PySem.Challenge.rw_luckwright_k01_exact_parts.Holds := by
  w_on; o_law
  refine HandSHeadRun.head_imp (r := K1.RR) (q := view K1.RR.prog [0, 38]) (H := K1.hk) (ob := K1.ob) (M := 4000) (loose := K1.loose) (d := HandSHeadRun.topDef K1.RR.prog 38) (kwd := []) K1.ob_eq K1.run
    (by kernel_rfl) (by kernel_rfl) (by kernel_rfl) (by rfl) (by first | assumption | decide +kernel) (by decide +kernel) ⟨rfl, rfl, rfl, rfl, rfl, by decide +kernel⟩ ?hw ?hc
  case hw => w_witness2
  case hc =>
    refine LamX.walk_ofTsE (l := K1.RWL) (n := 63) (k := 9) (x := "script") (CX := fun w => L2.CX K1.RWL.prog w) rfl (by decide) (by kernel_rfl) ⟨rfl, by decide, by decide⟩ ?F (fun w H s e s' z => ?hCX)
    case F =>
      intro w mg fa h Y G hmg0
      obtain ⟨K, KX, c⟩ := Y
      have hmg : mg ("law" : PySem.Str) = some (.ref fa) := by
        have e : (HandSHeadRun.topDef K1.RR.prog 38).name = ("law" : PySem.Str) := by kernel_rfl
        rw [← e]
        exact hmg0
      exact ⟨K, KX, K1.facts KX G hmg c K1.math0 K1.math1 K1.math2⟩
    case hCX =>
      obtain ⟨_, _, _, _, _, _, _, _, _, _, _, _, hE⟩ := z
      exact hE
#print axioms PySem.Challenge.cw_luckwright_k01_exact_parts_holds
